/- The document's has and Later. Conditions: slices are read as lists. -/
import Derived.Test.YtdebhngpgabglaaGreatCdS
set_option linter.unusedVariables false
set_option linter.unusedSimpArgs false
namespace Go.Proofs.YtdebhngpgabglaaGreat.Ca
open Go.ChangeShapes Go.WideShapes Go.ChangeAt Go.RowKit Go.Proofs.YtdebhngpgabglaaGreat.Tr
theorem contains_next (l : List Bytes) (k : Nat) (x s : Bytes) (h : l[k]? = some x) (hn : (l.take k).contains s = false) (hx : (x == s) = false) : (l.take (k + 1)).contains s = false := by
 rw [List.take_add_one, h]
 simp only [Option.toList, List.contains_eq_any_beq, List.any_append, List.any_cons, List.any_nil, Bool.or_false] at hn ⊢
 rw [hn, Bool.false_or]
 rw [Bool.eq_false_iff] at hx ⊢
 intro he; apply hx; simp at he ⊢; exact he.symm
theorem contains_here (l : List Bytes) (k : Nat) (x s : Bytes) (h : l[k]? = some x) (hx : (x == s) = true) : l.contains s = true := by
 have hm := List.mem_of_getElem? h
 simp at hx ⊢
 rw [← hx]; exact hm
set_option maxHeartbeats 800000 in
theorem rhas_any (v : Value) (l : List Bytes) (s : Bytes) (w : World) (hv : Strs w v l) : Calls Tryz.prog 22 #[v, .string (str s)] w fun e w' => e = .returned (.bool (l.contains s)) ∧ w = w' := by
 obtain ⟨A, c, rfl, h1, h2, hA⟩ := hv
 unfold maxLen at h2
 have HA := Lib.hid hA
 obtain ⟨B, hB⟩ : ∃ B, l.contains s = B := ⟨_, rfl⟩
 have HB := Lib.hid hB
 rw [hB]
 clear hA hB
 go_enter Tryz.func22, Tryz.ntmps22
 go_wp2
 go_loop [5] (fun i => ∃ k : Nat, k ≤ l.length ∧ i = .int .i64 k ∧ Hid ((l.take k).contains s = false)) (fun i => l.length - (intOf i).toNat)
 case atStart => exact ⟨0, Nat.zero_le _, rfl, by rw [List.take_zero]; rfl⟩
 case round =>
  obtain ⟨k, hk, rfl, hn⟩ := hrel
  by_cases hlt : k < l.length
  · obtain ⟨x, hx⟩ : ∃ x, l[k]? = some x := ⟨_, List.getElem?_eq_getElem hlt⟩
    obtain ⟨g, o, rfl, hg, a0⟩ := HA.out k x hx
    have HX := Lib.hid hx
    clear hx
    rcases Bool.eq_false_or_eq_true (x == s) with hq | hq
    · have HR := Lib.hid (show B = true from HB.out.symm.trans (contains_here l k x s HX.out hq))
      have hb : ((str x).toList == (str s).toList) = true := by rw [str_beq]; exact hq
      go_wp2
      go_ret
      exact ⟨by rw [HR.out]; rfl, rfl⟩
    · have HN := Lib.hid (contains_next l k x s HX.out hn.out hq)
      have hb : ((str x).toList == (str s).toList) = false := by rw [str_beq]; exact hq
      go_wp2
      refine ⟨⟨k + 1, by omega, by go_num, HN.out⟩, by simp [intOf]; omega⟩
  · have HR := Lib.hid (show B = false by have := hn.out; rw [List.take_of_length_le (by omega)] at this; exact HB.out.symm.trans this)
    go_wp2
    go_ret
    exact ⟨by rw [HR.out]; rfl, rfl⟩
def BoolsPost (w : World) (l : List Bool) (e : Ending) (w' : World) : Prop := ∃ A c, e = .returned (.slice A l.length c) ∧ w'.ownsRow w.heap.size 4 1 (.slice A l.length c) l.length (boolsOf l) ∧ Below w.heap.size w w'
structure LR (w : World) (g c : Nat) (V : List Bool) (wr : World) : Prop where
 bef : wr.ownsRow w.heap.size 4 1 (.slice (some ⟨g, 0, none⟩) V.length c) V.length (boolsOf V)
 below : Below w.heap.size w wr
theorem LR.turn {w wr wr' : World} {g c : Nat} {V : List Bool} (h : LR w g c V wr) (hb : Below wr.heap.size wr wr') : LR w g c V wr' := ⟨own_below h.bef hb, h.below.trans (hb.mono h.below.size)⟩
theorem LR.lt {w wr : World} {g c : Nat} {V : List Bool} (h : LR w g c V wr) : w.heap.size ≤ g ∧ g < wr.heap.size := h.bef.lt g rfl
theorem LR.set {w wr : World} {g c : Nat} {V : List Bool} (h : LR w g c V wr) (k : Nat) (b : Bool) : LR w g c (V.set k b) (wr.setCell ⟨g, k, none⟩ (.bool b)) := by
 have := h.lt
 refine ⟨?_, h.below.setCell (p := ⟨g, k, none⟩) (by show w.heap.size ≤ g; omega) _⟩
 rw [List.length_set, bools_set]
 exact (h.bef.stored k (.bool b)).1
theorem LR.other {w wr : World} {g c : Nat} {V : List Bool} (h : LR w g c V wr) {b T s n : Nat} {v : Value} {xs : List Value} (ho : wr.ownsRow b T s v n xs) (hT : T ≠ 4) (k : Nat) (u : Value) : (wr.setCell ⟨g, k, none⟩ u).ownsRow b T s v n xs :=
 own_block ho (fun j hj => Below.heap_setCell _ _ _ _ (fun e => own_ne ho h.bef hT j hj (by rw [e]; rfl)))
set_option maxRecDepth 100000 in
set_option maxHeartbeats 8000000 in
theorem rlater_any (v : Value) (e : List Nd) (w : World) (hv : Nodes w v (normB e)) : Calls Tryz.prog 21 #[v] w (BoolsPost w (lateM e)) := by
 have HV := Lib.hid hv
 obtain ⟨A, c, rfl, h1, h2, -⟩ := hv
 unfold maxLen at h2
 obtain ⟨i0, hi, hz0, hz1, hz2⟩ := info_parts info4
 have HLL := Lib.hid (late_len e)
 have hle := norm_le e
 go_enter Tryz.func21, Tryz.ntmps21
 go_wp2_with (at_make; refine wpList_make_full _ rfl _ _ 57 rfl w.heap.size 4 i0 _ 1 Tryz.underlying57 hi hz0 hz1 _ _ _ _ (normB e).length rfl rfl rfl rfl (by rw [hz2]; omega) (by unfold maxLen; omega) (Nat.le_refl _) ?_)
 intro w2 hown hgrow
 have HNR : Hid (LR w w.heap.size (normB e).length (List.replicate (normB e).length false) w2) := Lib.hid (by
  refine ⟨?_, (Below.refl _ _).grown hgrow (Nat.le_refl _) (fun k hk => by simp at hk)⟩
  rw [List.length_replicate, ← made_bools]
  exact hown)
 clear hown hgrow
 go_wp2
 go_loopw [4] (fun i wr => ∃ (m : Nat) (V : List Bool), i = .int .i64 ((m : Int) - 1) ∧ m ≤ (normB e).length ∧ Bf (lateM e) V (Sm (normB e) m) ∧ LR w w.heap.size (normB e).length V wr) (fun i _ => (intOf i + 1).toNat)
 case atStart => exact ⟨(normB e).length, _, rfl, Nat.le_refl _, bf_start e, HNR.out⟩
 case round =>
  obtain ⟨m, V, rfl, hm, hbf, hnr⟩ := hrel
  have HNR := Lib.hid hnr
  have HBF := Lib.hid hbf
  clear hbf
  obtain ⟨wm, hwm⟩ : ∃ W, W = wr := ⟨_, rfl⟩
  subst hwm
  cases m with
  | zero =>
   have hV := bf_all HBF.out
   subst hV
   have hem : ((0 : Nat) : Int) - 1 = -1 := rfl
   rw [hem]
   have hb := hnr.below
   have ho := hnr.bef
   have HLE : Hid (BoolsPost w (lateM e) (.returned (.slice (some ⟨w.heap.size, 0, none⟩) (normB e).length (normB e).length)) wm) := Lib.hid ⟨_, (normB e).length, by rw [HLL.out], ho, hb⟩
   clear hnr hem hm HBF HNR hb ho
   go_wp2
   go_ret
   exact HLE.out
  | succ m =>
   obtain ⟨x, hx⟩ : ∃ x, (normB e)[m]? = some x := ⟨_, List.getElem?_eq_getElem (by omega)⟩
   have hvr := HV.out.below hnr.below (Nat.le_refl _)
   obtain ⟨A', c', e1, -, -, hA⟩ := hvr
   simp only [Value.slice.injEq, true_and] at e1
   obtain ⟨rfl, rfl⟩ := e1
   obtain ⟨gn, o, rfl, hg, a0, a1, a2, a3, a4, a5⟩ := hA m x hx
   have em : ((m + 1 : Nat) : Int) - 1 = (m : Int) := by omega
   rw [em]
   obtain ⟨d, hd⟩ : ∃ d, (lateM e)[m]? = some d := ⟨_, List.getElem?_eq_getElem (by rw [HLL.out]; omega)⟩
   have HKID := Lib.hid (fun k (hk : k ∈ kidsM x) => late_kid e hx hk hd)
   have HX := Lib.hid hx
   have HD := Lib.hid hd
   have hml : m < (normB e).length := by omega
   clear hx hd em hnr hA
   go_wp2_with fail
   refine (rkids_any x _).mono ?_
   rintro r w3 ⟨kv, rfl, hko, hb3⟩
   have HN3 := Lib.hid (HNR.out.turn hb3)
   have HKO := Lib.hid hko
   obtain ⟨A3, c3, rfl, z1, z2, _⟩ := Ints.of_own hko
   unfold maxLen at z2
   clear hko hb3
   go_wp2
   go_loopw [6] (fun i wr => ∃ (q : Nat) (V' : List Bool), q ≤ (kidsM x).length ∧ i = .int .i64 q ∧ Bf (lateM e) V' (Sq (normB e) (m + 1) (kidsM x) q) ∧ LR w w.heap.size (normB e).length V' wr ∧ wr.ownsRow wm.heap.size 3 1 (.slice A3 (kidsM x).length c3) (kidsM x).length (intsOf (kidsM x))) (fun i _ => (kidsM x).length - (intOf i).toNat)
   case atStart => exact ⟨0, V, Nat.zero_le _, rfl, HBF.out.sub (fun j hj => hj.elim id (fun ⟨r, hr, _⟩ => by omega)), HN3.out, HKO.out⟩
   case round =>
    obtain ⟨q, V', hq, rfl, hbf, hnr, hko⟩ := hrel
    have HNQ := Lib.hid hnr
    have HKQ := Lib.hid hko
    have HBQ := Lib.hid hbf
    by_cases hql : q < (kidsM x).length
    · obtain ⟨k, hk⟩ : ∃ k, (kidsM x)[q]? = some k := ⟨_, List.getElem?_eq_getElem hql⟩
      obtain ⟨k0, k1, k2, k3⟩ := HKID.out k (List.mem_of_getElem? hk)
      obtain ⟨kn, rfl⟩ := Int.eq_ofNat_of_zero_le k0
      rw [Int.toNat_natCast] at k1 k2 k3
      have hVl : V'.length = (normB e).length := by rw [hbf.len, HLL.out]
      have hVm := (bf_at hbf (fun j hj => .inl hj) hml).trans HD.out
      obtain ⟨bk, hbk⟩ : ∃ b, V'[kn]? = some b := ⟨_, List.getElem?_eq_getElem (by omega)⟩
      have cm := (hnr.bef.cellAt m (by omega)).trans (bools_get hVm)
      have ck := (hnr.bef.cellAt kn (by omega)).trans (bools_get hbk)
      have fk := hnr.bef.frozenAt kn
      have hgq := hnr.lt.2
      obtain ⟨A5, c5, e5, -, -, hA5⟩ := HV.out.below hnr.below (Nat.le_refl _)
      simp only [Value.slice.injEq, Option.some.injEq, true_and] at e5
      obtain ⟨rfl, rfl⟩ := e5
      obtain ⟨gn', o', e6, hg6, b0, -⟩ := hA5 m x HX.out
      simp only [Option.some.injEq, Addr.mk.injEq, and_true] at e6
      obtain ⟨rfl, rfl⟩ := e6
      have K3 := Lib.hid k3
      have HK := Lib.hid hk
      obtain ⟨A4, c4, e4, _, _, hA4⟩ := Ints.of_own hko
      simp only [Value.slice.injEq, true_and] at e4
      obtain ⟨rfl, rfl⟩ := e4
      obtain ⟨g4, o4, rfl, hg4, d0⟩ := hA4 q _ hk
      clear hbf hnr hko hVm hbk hk k3 hA4 k0 hA5
      obtain ⟨bE, hbE⟩ : ∃ z, (d || endB x.op) = z := ⟨_, rfl⟩
      rw [hbE] at K3
      rcases (show (d = true ∧ bE = true) ∨ (d = false ∧ (x.op == 21) = true ∧ bE = true) ∨ (d = false ∧ (x.op == 21) = false ∧ (x.op == 24) = true ∧ bE = true) ∨ (d = false ∧ (x.op == 21) = false ∧ (x.op == 24) = false ∧ bE = false) by
       rw [← hbE]; unfold endB; cases d <;> cases (x.op == 21) <;> cases (x.op == 24) <;> simp) with ⟨rfl, rfl⟩ | ⟨rfl, h21, rfl⟩ | ⟨rfl, h21, h24, rfl⟩ | ⟨rfl, h21, h24, rfl⟩
      all_goals
       have HP := Lib.hid (bf_put HK.out (Int.natCast_nonneg _) HBQ.out (by rw [Int.toNat_natCast]; exact K3.out))
       clear hbE
       go_wp2_with fail
       go_region
       all_goals
        go_wp2
        refine ⟨⟨q + 1, _, by omega, by go_num, HP.out, by rw [Int.toNat_natCast]; exact (HNQ.out.set kn _).turn ⟨rfl, rfl, rfl, Nat.le_refl _, fun _ _ => rfl⟩, HNQ.out.other HKQ.out (by decide) kn _⟩, by simp [intOf]; omega⟩
    · have HB2 := Lib.hid (bf_next HX.out (by omega) hbf)
      clear hbf hnr hko
      go_wp2
      refine ⟨⟨m, V', by first | rfl | go_num, by omega, HB2.out, HNQ.out⟩, by simp [intOf]⟩
end Go.Proofs.YtdebhngpgabglaaGreat.Ca
