/- The function May tells whether nodes are an expression that may be. Conditions: the slice is read as a list of nodes. -/
import Derived.Test.YtobkcdkffcenbaaGreatDoorCa02
import Derived.Test.YtobkcdkffcenbaaGreatDoorCa04
import Derived.Deep.RegionWith
import Derived.StillTailTactics
set_option linter.unusedVariables false
set_option linter.unusedSimpArgs false
namespace Go.Proofs.YtobkcdkffcenbaaGreatDoor.Tr
open Go.ChangeShapes Go.WideShapes Go.ChangeAt Go.RowKit
theorem bears_lit (x : Nd) (b : Bool) (w : World) (h : plainB x.lab = b) : Calls Tryz.prog 87 #[.agg #[.int .i64 x.op, .int .i64 x.a, .int .i64 x.b, .int .i64 x.c, .int .i64 x.n, .string (str x.name)]] w
    fun e w' => e = .returned (.bool b) ∧ Below w.heap.size w w' := by rw [← h]; exact bears_any x w
theorem stands_lit (v : Value) (a : List Nd) (x : Nd) (b : Bool) (w : World) (hv : Nodes w v a) (h : standsM a x = b) :
    Calls Tryz.prog 88 #[v, .agg #[.int .i64 x.op, .int .i64 x.a, .int .i64 x.b, .int .i64 x.c, .int .i64 x.n, .string (str x.name)]] w fun r w' => r = .returned (.bool b) ∧ Below w.heap.size w w' := by rw [← h]; exact stands_any v a x w hv
def cntM (l : List Int) (n : Nat) : List Int := (List.range n).map (fun (p : Nat) => ((l.count (p : Int) : Nat) : Int))
theorem cnt_len (l : List Int) (n : Nat) : (cntM l n).length = n := by simp [cntM]
theorem cnt_get (l : List Int) (n p : Nat) (h : p < n) : (cntM l n)[p]? = some ((l.count (p : Int) : Nat) : Int) := by
  unfold cntM; rw [List.getElem?_map, List.getElem?_range h]; rfl
theorem cnt_nil (n : Nat) : cntM [] n = List.replicate n 0 := by
  apply List.ext_getElem?
  intro p
  by_cases h : p < n
  · rw [cnt_get _ _ _ h, List.getElem?_replicate, if_pos h]; rfl
  · rw [List.getElem?_eq_none (by rw [cnt_len]; omega), List.getElem?_eq_none (by simp; omega)]
theorem cnt_snoc (l : List Int) (n m : Nat) (h : m < n) : cntM (l ++ [(m : Int)]) n = (cntM l n).set m (((l.count (m : Int) : Nat) : Int) + 1) := by
  apply List.ext_getElem?
  intro p
  by_cases hp : p < n
  · rw [cnt_get _ _ _ hp]
    by_cases hm : m = p
    · subst hm
      rw [List.getElem?_set_self (by rw [cnt_len]; exact hp), List.count_append]; simp
    · rw [List.getElem?_set_ne hm, cnt_get _ _ _ hp, List.count_append, List.count_singleton]
      simp [show ((m : Int) == (p : Int)) = false from by rw [beq_eq_false_iff_ne]; omega]
  · rw [List.getElem?_eq_none (by rw [cnt_len]; omega), List.getElem?_eq_none (by simp [cnt_len]; omega)]
theorem flat_next (e : List Nd) (k : Nat) (x : Nd) (h : e[k]? = some x) : (e.take (k + 1)).flatMap kidsM = (e.take k).flatMap kidsM ++ kidsM x := by
  rw [List.take_add_one, h, List.flatMap_append]; simp
theorem flat_len3 (e : List Nd) : (e.flatMap kidsM).length ≤ 3 * e.length := by
  induction e with
  | nil => simp
  | cons a r ih => rw [List.flatMap_cons, List.length_append, List.length_cons]; have := kids_small a; omega
def NodeC (e : List Nd) (k : Nat) : Prop := ∀ i x, i < k → e[i]? = some x → plainB x.lab = true ∧ standsM (e.take i) x = true
structure MayC (e : List Nd) : Prop where
  pos : 0 < e.length
  le : e.length ≤ 5000
  last : (e.getD (e.length - 1) default).op ≠ 28
  node : NodeC e e.length
  uses : ∀ j, j + 1 < e.length → usesM e j = 1
  deep : depthM e ≤ 40
open Classical in
noncomputable def mayCB (e : List Nd) : Bool := decide (MayC e)
theorem mayC_no {e : List Nd} (h : ¬ MayC e) : mayCB e = false := by unfold mayCB; exact @decide_eq_false _ (Classical.propDecidable _) h
theorem mayC_yes {e : List Nd} (h : MayC e) : mayCB e = true := by unfold mayCB; exact @decide_eq_true _ (Classical.propDecidable _) h
set_option maxRecDepth 100000 in
set_option maxHeartbeats 4000000 in
theorem mayC_any (v : Value) (e : List Nd) (w : World) (hv : Nodes w v e) :
    Calls Tryz.prog 66 #[v] w fun r w' => r = .returned (.bool (mayCB e)) ∧ Below w.heap.size w w' := by
  have HV := Lib.hid hv
  obtain ⟨A, c, rfl, h1, h2, hA⟩ := hv
  unfold maxLen at h2
  have HA := Lib.hid hA
  clear hA
  obtain ⟨i0, hi, hz0, hz1, hz2⟩ := info_parts info3
  by_cases hp : 0 < e.length
  rotate_left
  · have h0 : e.length = 0 := by omega
    have hR := Lib.hid (mayC_no (e := e) (fun h => by have := h.pos; omega))
    rw [hR.out, h0]
    clear h0 HA HV
    go_enter Tryz.func66, Tryz.ntmps66
    go_wp2
    go_ret
    exact ⟨rfl, Below.refl _ _⟩
  have hp' : ((e.length : Int) == 0) = false := by rw [beq_eq_false_iff_ne]; omega
  by_cases hle : e.length ≤ 5000
  rotate_left
  · have hle' : (5000 : Int) < (e.length : Int) := by omega
    have hR := Lib.hid (mayC_no (e := e) (fun h => by have := h.le; omega))
    rw [hR.out]
    clear hle
    go_enter Tryz.func66, Tryz.ntmps66
    go_wp2
    go_ret
    exact ⟨rfl, Below.refl _ _⟩
  obtain ⟨y, hy⟩ : ∃ y, e[e.length - 1]? = some y := ⟨_, List.getElem?_eq_getElem (by omega)⟩
  have HY := Lib.hid (getD_of hy)
  obtain ⟨g, o, rfl, hg, l0, l1, l2, l3, l4, l5⟩ := HA.out _ y hy
  have hidx : (e.length : Int) - 1 = ((e.length - 1 : Nat) : Int) := by omega
  have HIDX := Lib.hid hidx
  clear hidx hy l1 l2 l3 l4 l5
  rcases Bool.eq_false_or_eq_true (y.op == 28) with hy | hy
  · have hR := Lib.hid (mayC_no (e := e) (fun h => by have := h.last; rw [HY.out] at this; simp at hy; exact this hy))
    rw [hR.out]
    go_enter Tryz.func66, Tryz.ntmps66
    go_wp2
    go_ret
    exact ⟨rfl, Below.refl _ _⟩
  have HLAST := Lib.hid (show (e.getD (e.length - 1) default).op ≠ 28 by rw [HY.out]; simpa using hy)
  go_enter Tryz.func66, Tryz.ntmps66
  go_wp2_with (at_make; refine wpList_make_full _ rfl _ _ 72 rfl w.heap.size 3 i0 _ 1 Tryz.underlying72 hi hz0 hz1 _ _ _ _ e.length rfl rfl rfl rfl (by rw [hz2]; omega) (by unfold maxLen; omega) (Nat.le_refl _) ?_)
  intro w1 hown hgrow
  have hb1 : Below w.heap.size w w1 := (Below.refl _ _).grown hgrow (Nat.le_refl _) (fun k hk => by simp at hk)
  have hown0 : w1.ownsRow w.heap.size 3 1 (.slice (some ⟨w.heap.size, 0, none⟩) e.length e.length) e.length (intsOf (cntM ((e.take 0).flatMap kidsM) e.length)) := by
    rw [show (e.take 0).flatMap kidsM = [] from by simp, cnt_nil, ← made_ints]; exact hown
  clear hown hgrow l0 hy
  go_wp2
  go_loopw [33] (fun i wr => ∃ k : Nat, k ≤ e.length ∧ i = .int .i64 k ∧ wr.ownsRow w.heap.size 3 1 (.slice (some ⟨w.heap.size, 0, none⟩) e.length e.length) e.length (intsOf (cntM ((e.take k).flatMap kidsM) e.length)) ∧ Below w.heap.size w wr ∧ Hid (NodeC e k)) (fun i _ => e.length - (intOf i).toNat)
  case atStart => exact ⟨0, Nat.zero_le _, rfl, hown0, hb1, fun i x h => absurd h (by omega)⟩
  case round =>
    obtain ⟨k, hk, rfl, hown, hb, hC⟩ := hrel
    clear hown0 hb1
    by_cases hlt : k < e.length
    · obtain ⟨x, hx⟩ : ∃ x, e[k]? = some x := ⟨_, List.getElem?_eq_getElem hlt⟩
      obtain ⟨g', o', hgo, hg', a0, a1, a2, a3, a4, a5⟩ := HA.out k x hx
      simp only [Option.some.injEq, Addr.mk.injEq, and_true] at hgo
      obtain ⟨rfl, rfl⟩ := hgo
      have hcb := fun q => hb.cell (p := ⟨g, q, none⟩) hg
      have b0 := (hcb _).trans a0
      have b1 := (hcb _).trans a1
      have b2 := (hcb _).trans a2
      have b3 := (hcb _).trans a3
      have b4 := (hcb _).trans a4
      have b5 := (hcb _).trans a5
      have hzz := (hown.lt _ rfl).2
      have HX := Lib.hid hx
      have HO := Lib.hid hown
      have HB := Lib.hid hb
      clear hx hcb a0 a1 a2 a3 a4 a5 hown hb hg'
      have hkc0 : (0 : Int) ≤ (k : Int) := by omega
      have hkc1 : (k : Int) ≤ (c : Int) := by omega
      have hkc2 : (k : Int) ≤ (e.length : Int) := by omega
      obtain ⟨p1, hp1⟩ : ∃ b, plainB x.lab = b := ⟨_, rfl⟩
      obtain ⟨p2, hp2⟩ : ∃ b, standsM (e.take k) x = b := ⟨_, rfl⟩
      have HP1 := Lib.hid hp1
      have HP2 := Lib.hid hp2
      clear hp1 hp2
      cases p1
      · have hR := Lib.hid (mayC_no (e := e) (fun h => by have := (h.node k x hlt HX.out).1; rw [HP1.out] at this; simp at this))
        go_wp2
        first | go_region_with (go_at_call 87; refine (bears_lit x _ _ HP1.out).mono ?_; rintro r w3 ⟨rfl, hb3⟩) | fail
        all_goals go_wp2
        all_goals go_ret
        all_goals exact ⟨by rw [hR.out]; rfl, (HB.out.alloc (by omega) _).drew.trans (hb3.mono (by show _ ≤ (wr.alloc _).heap.size; simp; omega))⟩
      · cases p2
        · have hR := Lib.hid (mayC_no (e := e) (fun h => by have := (h.node k x hlt HX.out).2; rw [HP2.out] at this; simp at this))
          go_wp2
          go_region_held3 (fun w' => w'.cell? ⟨wr.heap.size, 0, none⟩ = some (.int .i64 x.op) ∧ w'.cell? ⟨wr.heap.size, 1, none⟩ = some (.int .i64 x.a) ∧ w'.cell? ⟨wr.heap.size, 2, none⟩ = some (.int .i64 x.b) ∧ w'.cell? ⟨wr.heap.size, 3, none⟩ = some (.int .i64 x.c) ∧ w'.cell? ⟨wr.heap.size, 4, none⟩ = some (.int .i64 x.n) ∧ w'.cell? ⟨wr.heap.size, 5, none⟩ = some (.string (str x.name)))
            (first | go_keep | (refine ⟨?_, ?_, ?_, ?_, ?_, ?_⟩ <;> (rw [hb4.cell (by have := hb3.size; simp at this; first | omega | (simp; omega))]; rw [hb3.cell (by simp <;> omega)]; simp [World.cell?_alloc_at, World.cell?_alloc_some])) | (refine ⟨?_, ?_, ?_, ?_, ?_, ?_⟩ <;> (rw [hb3.cell (by simp <;> omega)]; simp [World.cell?_alloc_at, World.cell?_alloc_some])))
            (first | (go_at_call 87; refine (bears_lit x _ _ HP1.out).mono ?_; rintro r w3 ⟨rfl, hb3⟩) | (go_at_call 88; refine (stands_lit _ (e.take k) x _ _ (by exact ((HV.out.below HB.out (Nat.le_refl _)).below (B := wr.heap.size) ((below_new wr _).drew.trans (hb3.mono (by simp))) (by omega)).take hk) HP2.out).mono ?_; rintro r w4 ⟨rfl, hb4⟩))
          have hz3 := hb3.size
          have hz4 := hb4.size
          simp at hz3
          have HBF := Lib.hid (show Below w.heap.size w w4 from (HB.out.alloc (by omega) _).drew.trans ((hb3.mono (by simp; omega)).trans (hb4.mono (by omega))))
          clear hb3 hb4
          go_wp2
          go_ret
          exact ⟨by rw [hR.out]; rfl, HBF.out⟩
        · go_wp2
          go_region_held3 (fun w' => w'.cell? ⟨wr.heap.size, 0, none⟩ = some (.int .i64 x.op) ∧ w'.cell? ⟨wr.heap.size, 1, none⟩ = some (.int .i64 x.a) ∧ w'.cell? ⟨wr.heap.size, 2, none⟩ = some (.int .i64 x.b) ∧ w'.cell? ⟨wr.heap.size, 3, none⟩ = some (.int .i64 x.c) ∧ w'.cell? ⟨wr.heap.size, 4, none⟩ = some (.int .i64 x.n) ∧ w'.cell? ⟨wr.heap.size, 5, none⟩ = some (.string (str x.name)))
            (first | go_keep | (refine ⟨?_, ?_, ?_, ?_, ?_, ?_⟩ <;> (rw [hb4.cell (by have := hb3.size; simp at this; first | omega | (simp; omega))]; rw [hb3.cell (by simp <;> omega)]; simp [World.cell?_alloc_at, World.cell?_alloc_some])) | (refine ⟨?_, ?_, ?_, ?_, ?_, ?_⟩ <;> (rw [hb3.cell (by simp <;> omega)]; simp [World.cell?_alloc_at, World.cell?_alloc_some])))
            (first | (go_at_call 87; refine (bears_lit x _ _ HP1.out).mono ?_; rintro r w3 ⟨rfl, hb3⟩) | (go_at_call 88; refine (stands_lit _ (e.take k) x _ _ (by exact ((HV.out.below HB.out (Nat.le_refl _)).below (B := wr.heap.size) ((below_new wr _).drew.trans (hb3.mono (by simp))) (by omega)).take hk) HP2.out).mono ?_; rintro r w4 ⟨rfl, hb4⟩))
          have hz3 := hb3.size
          have hz4 := hb4.size
          simp at hz3
          have HBF := Lib.hid (show Below w.heap.size w w4 from (HB.out.alloc (by omega) _).drew.trans ((hb3.mono (by simp; omega)).trans (hb4.mono (by omega))))
          have e0 := (hb4.cell (p := ⟨wr.heap.size, 0, none⟩) (by simp; omega)).trans ((hb3.cell (p := ⟨wr.heap.size, 0, none⟩) (by simp)).trans (show _ = some (Value.int .i64 x.op) from by simp [World.cell?_alloc_at]))
          have e1 := (hb4.cell (p := ⟨wr.heap.size, 1, none⟩) (by simp; omega)).trans ((hb3.cell (p := ⟨wr.heap.size, 1, none⟩) (by simp)).trans (show _ = some (Value.int .i64 x.a) from by simp [World.cell?_alloc_at]))
          have e2 := (hb4.cell (p := ⟨wr.heap.size, 2, none⟩) (by simp; omega)).trans ((hb3.cell (p := ⟨wr.heap.size, 2, none⟩) (by simp)).trans (show _ = some (Value.int .i64 x.b) from by simp [World.cell?_alloc_at]))
          have e3 := (hb4.cell (p := ⟨wr.heap.size, 3, none⟩) (by simp; omega)).trans ((hb3.cell (p := ⟨wr.heap.size, 3, none⟩) (by simp)).trans (show _ = some (Value.int .i64 x.c) from by simp [World.cell?_alloc_at]))
          have e4 := (hb4.cell (p := ⟨wr.heap.size, 4, none⟩) (by simp; omega)).trans ((hb3.cell (p := ⟨wr.heap.size, 4, none⟩) (by simp)).trans (show _ = some (Value.int .i64 x.n) from by simp [World.cell?_alloc_at]))
          have e5 := (hb4.cell (p := ⟨wr.heap.size, 5, none⟩) (by simp; omega)).trans ((hb3.cell (p := ⟨wr.heap.size, 5, none⟩) (by simp)).trans (show _ = some (Value.string (str x.name)) from by simp [World.cell?_alloc_at]))
          have HO4 := Lib.hid (own_below (own_below (World.ownsRow.drew (HO.out.alloc _)) hb3) hb4)
          obtain ⟨L, hL⟩ : ∃ L, kidsM x = L := ⟨_, rfl⟩
          have HL := Lib.hid hL
          obtain ⟨P, hP⟩ : ∃ P, (e.take k).flatMap kidsM = P := ⟨_, rfl⟩
          have HPP := Lib.hid hP
          have hPl : P.length ≤ 3 * k := by
            rw [← hP]; refine Nat.le_trans (flat_len3 _) ?_; rw [List.length_take]; omega
          have HIN := Lib.hid (show ∀ j q, L[j]? = some q → 0 ≤ q ∧ q < (k : Int) from fun j q hq => by
            have := HP2.out
            unfold standsM at this
            rw [Bool.and_eq_true, hL] at this
            have := List.all_eq_true.1 this.1 q (List.mem_of_getElem? hq)
            unfold kidB at this
            simp only [Bool.and_eq_true, decide_eq_true_eq, List.length_take] at this
            omega)
          have hLs : L.length ≤ 3 := by rw [← hL]; exact kids_small x
          clear hb3 hb4 hL hP
          go_wp2_with fail
          refine (kids_any x _).mono ?_
          rintro r w5 ⟨kv, rfl, hok, hb5⟩
          rw [HL.out] at hok
          obtain ⟨A2, c2, rfl, y1, y2, hA2⟩ := Ints.of_own hok
          have HA2 := Lib.hid hA2
          have HKO := Lib.hid (show ∀ g2 o2, A2 = some ⟨g2, o2, none⟩ → w.heap.size < g2 from fun g2 o2 h => by subst h; have := hok.lt g2 rfl; omega)
          have hz5 := hb5.size
          have HO5 := Lib.hid (own_below HO4.out hb5)
          have HB5 := Lib.hid (HBF.out.trans (hb5.mono (by omega)))
          clear hok hA2 hb5 e0 e1 e2 e3 e4 e5 b0 b1 b2 b3 b4 b5
          unfold maxLen at y2
          go_wp2
          go_loopw [52] (fun c wr => ∃ j : Nat, j ≤ L.length ∧ c = .int .i64 j ∧ wr.ownsRow w.heap.size 3 1 (.slice (some ⟨w.heap.size, 0, none⟩) e.length e.length) e.length (intsOf (cntM (P ++ L.take j) e.length)) ∧ Below w.heap.size w wr ∧ w5.heap.size ≤ wr.heap.size ∧ Hid (∀ p : Addr, p.block ≠ w.heap.size → wr.cell? p = w5.cell? p)) (fun c _ => L.length - (intOf c).toNat)
          case atStart => exact ⟨0, Nat.zero_le _, rfl, by rw [List.take_zero, List.append_nil, ← HPP.out]; exact HO5.out, HB5.out, Nat.le_refl _, fun _ _ => rfl⟩
          case round =>
            obtain ⟨j, hj, rfl, ho3, hb3, hz3, hk3⟩ := hrel
            have HO3 := Lib.hid ho3
            have HB3 := Lib.hid hb3
            clear ho3 hb3
            by_cases hlj : j < L.length
            · obtain ⟨q, hq⟩ : ∃ q, L[j]? = some q := ⟨_, List.getElem?_eq_getElem hlj⟩
              obtain ⟨g2, o2, rfl, hg2, d0'⟩ := HA2.out j q hq
              have hgb := HKO.out g2 o2 rfl
              have hgn2 : w.heap.size ≠ g2 := by omega
              have d0 := (hk3.out ⟨g2, o2 + j, none⟩ (by simp; omega)).trans d0'
              obtain ⟨hq0, hqk⟩ := HIN.out j q hq
              have HQ := Lib.hid hq
              clear hq d0'
              obtain ⟨m, rfl⟩ := Int.eq_ofNat_of_zero_le hq0
              have hml : m < e.length := by omega
              have hcl : (P ++ L.take j).count (m : Int) ≤ 3 * k + 3 := by
                refine Nat.le_trans List.count_le_length ?_
                rw [List.length_append, List.length_take]; omega
              have c1 := (HO3.out.cellAt m (by omega)).trans (intsOf_get _ _ _ (cnt_get _ _ _ hml))
              have f1 := HO3.out.frozenAt m
              have HN2 := Lib.hid (show cntM (P ++ L.take (j + 1)) e.length = (cntM (P ++ L.take j) e.length).set m ((((P ++ L.take j).count (m : Int) : Nat) : Int) + 1) by
                rw [List.take_add_one, HQ.out, ← List.append_assoc]; exact cnt_snoc _ _ _ hml)
              obtain ⟨cn, hcn⟩ : ∃ cn, (P ++ L.take j).count (m : Int) = cn := ⟨_, rfl⟩
              rw [hcn] at c1 hcl HN2
              clear hcn
              go_wp2
              refine ⟨⟨j + 1, by omega, by go_num, ?_, HB3.out.setCell (by simp) _, by simpa using hz3, fun p hp => ?_⟩, by simp [intOf]; omega⟩
              · have := (HO3.out.stored m (.int .i64 ((cn : Int) + 1))).1
                rw [HN2.out, intsOf_set]; exact this
              · exact (World.cell?_setCell_other _ _ _ _ (fun h => hp (by rw [← h]))).trans (hk3.out p hp)
            · have hjl : j = L.length := by omega
              subst hjl
              have HC2 : Hid (NodeC e (k + 1)) := Lib.hid (fun i y hi hy => by
                by_cases hik : i < k
                · exact hC.out i y hik hy
                · have : i = k := by omega
                  subst this
                  have := HX.out.symm.trans hy
                  simp only [Option.some.injEq] at this
                  subst this
                  exact ⟨HP1.out, HP2.out⟩)
              have HFL := Lib.hid (show (e.take (k + 1)).flatMap kidsM = P ++ L by rw [flat_next e k x HX.out, HPP.out, HL.out])
              go_wp2
              refine ⟨⟨k + 1, by omega, by go_num, ?_, HB3.out, HC2⟩, by simp [intOf]; omega⟩
              rw [HFL.out]; have := HO3.out; rwa [List.take_length] at this
    · have hkl : k = e.length := by omega
      subst hkl
      have HO := Lib.hid hown
      have HB := Lib.hid hb
      rw [List.take_length] at HO
      clear hown hb
      have hi2 := HIDX.out
      go_wp2
      go_loop [70] (fun c => ∃ j : Nat, j ≤ e.length - 1 ∧ c = .int .i64 j ∧ Hid (∀ p, p < j → usesM e p = 1)) (fun c => e.length - (intOf c).toNat)
      case atStart => exact ⟨0, Nat.zero_le _, rfl, fun p h => absurd h (by omega)⟩
      case round =>
        obtain ⟨j, hj, rfl, hu⟩ := hrel
        by_cases hlj : j < e.length - 1
        · have c1 := (HO.out.cellAt j (by omega)).trans (intsOf_get _ _ _ (cnt_get _ _ _ (show j < e.length by omega)))
          obtain ⟨cn, hcn⟩ : ∃ cn, (e.flatMap kidsM).count (j : Int) = cn := ⟨_, rfl⟩
          have HCN := Lib.hid (show usesM e j = cn from hcn)
          rw [hcn] at c1
          clear hcn
          by_cases h1 : cn = 1
          · subst h1
            have HU : Hid (∀ p, p < j + 1 → usesM e p = 1) := Lib.hid (fun p hp => by
              by_cases hpj : p < j
              · exact hu.out p hpj
              · have : p = j := by omega
                subst this; exact HCN.out)
            go_wp2
            refine ⟨⟨j + 1, by omega, by go_num, HU⟩, by simp [intOf]; omega⟩
          · have h1' : ((cn : Int) != 1) = true := by rw [bne_iff_ne]; omega
            have hR := Lib.hid (mayC_no (e := e) (fun h => by have := h.uses j (by omega); rw [HCN.out] at this; exact h1 this))
            go_wp2
            go_ret
            exact ⟨by rw [hR.out]; rfl, HB.out⟩
        · have hjl : j = e.length - 1 := by omega
          subst hjl
          go_wp2_with fail
          refine (depth_any _ e _ (by exact HV.out.below HB.out (Nat.le_refl _)) (by omega)).mono ?_
          rintro r w6 ⟨rfl, hb6⟩
          have HB6 := Lib.hid (HB.out.trans (hb6.mono HB.out.size))
          have HR := Lib.hid (show mayCB e = decide (((depthM e : Nat) : Int) ≤ 40) by
            by_cases hd : depthM e ≤ 40
            · rw [mayC_yes ⟨hp, hle, HLAST.out, hC.out, fun p hp => hu.out p (by omega), hd⟩, decide_eq_true (by omega)]
            · rw [mayC_no (fun h => hd h.deep), decide_eq_false (by omega)])
          clear hb6
          go_wp2
          go_ret
          exact ⟨ret_bool HR.out.symm, HB6.out⟩
end Go.Proofs.YtobkcdkffcenbaaGreatDoor.Tr
namespace Go.Proofs.YtobkcdkffcenbaaGreatDoor.Tr
open Go.ChangeShapes Go.WideShapes Go.ChangeAt Go.RowKit
theorem dOf_last (e : List Nd) (h : 0 < e.length) : (laidD e e.length)[e.length - 1]? = some (dOf e e.length) := by
  rw [laidD_get e e.length (Nat.le_refl _) _ (by omega)]
  unfold dOf depthM
  rw [List.take_length, List.getLastD_eq_getLast?, List.getLast?_eq_getElem?, deeps_len]; rfl
set_option maxRecDepth 100000 in
set_option maxHeartbeats 4000000 in
theorem rdepth_any (v : Value) (e : List Nd) (w : World) (hv : Nodes w v e) (hn : e.length ≤ 100000) :
    Calls Tryz.prog 32 #[v] w fun r w' => r = .returned (.int .i64 ((depthM e : Nat) : Int)) ∧ Below w.heap.size w w' := by
  obtain ⟨A, c, rfl, h1, h2, hA⟩ := hv
  unfold maxLen at h2
  have HA := Lib.hid hA
  clear hA
  obtain ⟨i0, hi, hz0, hz1, hz2⟩ := info_parts info3
  go_enter Tryz.func32, Tryz.ntmps32
  go_wp2_with (at_make; refine wpList_make_full _ rfl _ _ 72 rfl w.heap.size 3 i0 _ 1 Tryz.underlying72 hi hz0 hz1 _ _ _ _ e.length rfl rfl rfl rfl (by rw [hz2]; omega) (by unfold maxLen; omega) (Nat.le_refl _) ?_)
  intro w1 hown hgrow
  have hb1 : Below w.heap.size w w1 := (Below.refl _ _).grown hgrow (Nat.le_refl _) (fun k hk => by simp at hk)
  have hown0 : w1.ownsRow w.heap.size 3 1 (.slice (some ⟨w.heap.size, 0, none⟩) e.length e.length) e.length (intsOf (laidD e 0)) := by
    rw [laidD_zero, ← made_ints]; exact hown
  clear hown hgrow
  go_wp2
  go_loopw [4] (fun i wr => ∃ k : Nat, k ≤ e.length ∧ i = .int .i64 k ∧ wr.ownsRow w.heap.size 3 1 (.slice (some ⟨w.heap.size, 0, none⟩) e.length e.length) e.length (intsOf (laidD e k)) ∧ Below w.heap.size w wr) (fun i _ => e.length - (intOf i).toNat)
  case atStart => exact ⟨0, Nat.zero_le _, rfl, hown0, hb1⟩
  case round =>
    obtain ⟨k, hk, rfl, hown, hb⟩ := hrel
    clear hown0 hb1
    by_cases hlt : k < e.length
    · obtain ⟨x, hx⟩ : ∃ x, e[k]? = some x := ⟨_, List.getElem?_eq_getElem hlt⟩
      obtain ⟨g, o, rfl, hg, a0, a1, a2, a3, a4, a5⟩ := HA.out k x hx
      have hcb := fun q => hb.cell (p := ⟨g, q, none⟩) hg
      have b0 := (hcb _).trans a0
      have b1 := (hcb _).trans a1
      have b2 := (hcb _).trans a2
      have b3 := (hcb _).trans a3
      have b4 := (hcb _).trans a4
      have b5 := (hcb _).trans a5
      have hzz := (hown.lt _ rfl).2
      have hgn : w.heap.size ≠ g := by omega
      have HX := Lib.hid hx
      have HK := Lib.hid (laidD_new e k hlt)
      have c0 := (hown.cellAt k (by omega)).trans (intsOf_get _ _ _ HK.out)
      have f0 := hown.frozenAt k
      have HO := Lib.hid hown
      have HB := Lib.hid hb
      clear hx hcb a0 a1 a2 a3 a4 a5 hown hb
      have hD : (deepsM (e.take k)).length = k := by rw [deeps_len, List.length_take]; omega
      have hDl := deeps_le (e.take k)
      have hDl' : ∀ d ∈ deepsM (e.take k), d ≤ k := fun d hd => by have := hDl d hd; rw [List.length_take] at this; omega
      obtain ⟨D, hDD⟩ : ∃ D, deepsM (e.take k) = D := ⟨_, rfl⟩
      obtain ⟨L, hL⟩ : ∃ L, kidsM x = L := ⟨_, rfl⟩
      have HL := Lib.hid hL
      have HS := Lib.hid (show (laidD e k).set k ((dF D L L.length : Nat) : Int) = laidD e (k + 1) by rw [← laidD_set e k x HX.out, hDD, ← hL, dF_all])
      have HG : Hid (∀ j, j < k → (laidD e k)[j]? = some ((D.getD j 0 : Nat) : Int)) := Lib.hid (by rw [← hDD]; exact laidD_get e k hk)
      have hLl := laidD_len e k hk
      have HLL := Lib.hid hLl
      clear hLl
      rw [hDD] at hD hDl'
      have HF := Lib.hid (dF_le D k hDl' L)
      have HDK := Lib.hid hDl'
      have HDL := Lib.hid hD
      clear hD hDl hDl' hDD hL
      go_wp2_with fail
      refine (rkids_any x _).mono ?_
      rintro r w2 ⟨kv, rfl, hok, hb2⟩
      rw [HL.out] at hok
      obtain ⟨A2, c2, rfl, y1, y2, hA2⟩ := Ints.of_own hok
      have HA2 := Lib.hid hA2
      have hz2 := hb2.size
      simp at hz2
      have HO2 := Lib.hid (own_below (HO.out.stored k (.int .i64 1)).1 hb2)
      have HB2 := Lib.hid ((HB.out.setCell (by simp) _).trans (hb2.mono (by simp; omega)))
      have HKO := Lib.hid (show ∀ g2 o2, A2 = some ⟨g2, o2, none⟩ → w.heap.size < g2 from fun g2 o2 h => by subst h; have := hok.lt g2 rfl; simp at this; omega)
      clear hok hA2 hb2
      unfold maxLen at y2
      go_wp2
      go_loopw [6] (fun c wr => ∃ j : Nat, j ≤ L.length ∧ c = .int .i64 j ∧ wr.ownsRow w.heap.size 3 1 (.slice (some ⟨w.heap.size, 0, none⟩) e.length e.length) e.length (intsOf ((laidD e k).set k ((dF D L j : Nat) : Int))) ∧ Below w.heap.size w wr ∧ w2.heap.size ≤ wr.heap.size ∧ Hid (∀ p : Addr, p.block ≠ w.heap.size → wr.cell? p = w2.cell? p)) (fun c _ => L.length - (intOf c).toNat)
      case atStart => exact ⟨0, Nat.zero_le _, rfl, by rw [intsOf_set]; exact HO2.out, HB2.out, Nat.le_refl _, fun _ _ => rfl⟩
      case round =>
        obtain ⟨j, hj, rfl, ho3, hb3, hz3, hk3⟩ := hrel
        have hf := HF.out j
        have HO3 := Lib.hid ho3
        have HB3 := Lib.hid hb3
        clear ho3 hb3
        by_cases hlj : j < L.length
        · obtain ⟨q, hq⟩ : ∃ q, L[j]? = some q := ⟨_, List.getElem?_eq_getElem hlj⟩
          obtain ⟨g2, o2, rfl, hg2, d0'⟩ := HA2.out j q hq
          have hgb := HKO.out g2 o2 rfl
          have hg3 : g2 < wr.heap.size := by omega
          have hgn2 : w.heap.size ≠ g2 := by omega
          have d0 := (hk3.out ⟨g2, o2 + j, none⟩ (by simp; omega)).trans d0'
          have HQ := Lib.hid hq
          clear hq d0'
          have c1 := (HO3.out.cellAt k (by omega)).trans (intsOf_get _ k ((dF D L j : Nat) : Int) (by rw [List.getElem?_set_self (by rw [HLL.out]; exact hlt)]))
          have f1 := HO3.out.frozenAt k
          by_cases hq0 : 0 ≤ q
          · by_cases hqk : q < (k : Int)
            · obtain ⟨m, rfl⟩ := Int.eq_ofNat_of_zero_le hq0
              have hmk : m < k := by omega
              have hml : m < e.length := by omega
              have hd1 : D.getD m 0 ≤ k := by
                have hm : m < D.length := by rw [HDL.out]; exact hmk
                rw [List.getD, List.getElem?_eq_getElem hm]
                exact HDK.out _ (List.getElem_mem _)
              have c2 := (HO3.out.cellAt m (by omega)).trans (intsOf_get _ m ((D.getD m 0 : Nat) : Int) (by rw [List.getElem?_set_ne (by omega)]; exact HG.out m hmk))
              have HN2 := Lib.hid (show dF D L (j + 1) = max (dF D L j) (1 + D.getD m 0) by
                rw [dF_in HQ.out (by omega) (by rw [HDL.out]; omega)]; rfl)
              obtain ⟨dm, hdm⟩ : ∃ dm, D.getD m 0 = dm := ⟨_, rfl⟩
              rw [hdm] at c2 hd1 HN2
              obtain ⟨dj, hdj⟩ : ∃ dj, dF D L j = dj := ⟨_, rfl⟩
              rw [hdj] at hf HN2 c1
              have HDJ := Lib.hid hdj
              clear hdm hdj
              go_wp2
              go_region
              go_wp2
              have HV : (if (dj : Int) < (dm : Int) + 1 then (dm : Int) + 1 else (dj : Int)) = ((dF D L (j + 1) : Nat) : Int) := by rw [HN2.out]; split <;> omega
              refine ⟨⟨j + 1, by omega, by go_num, ?_, (HB3.out.setCell (by simp) _).drew, by simpa using hz3, fun p hp => ?_⟩, by simp [intOf]; omega⟩
              · have := (HO3.out.stored k (.int .i64 (if (dj : Int) < (dm : Int) + 1 then (dm : Int) + 1 else (dj : Int)))).1
                rw [← intsOf_set, List.set_set] at this
                rw [HV] at this ⊢
                exact this
              · exact (World.cell?_setCell_other _ _ _ _ (fun h => hp (by rw [← h]))).trans (hk3.out p hp)
            · have HN2 := Lib.hid (show dF D L (j + 1) = dF D L j from dF_out HQ.out (by rw [HDL.out]; omega))
              have hqk' : decide (q < (k : Int)) = false := by simpa using hqk
              go_wp2
              refine ⟨⟨j + 1, by omega, by go_num, by rw [HN2.out]; exact HO3.out, HB3.out, hz3, hk3⟩, by simp [intOf]; omega⟩
          · have HN2 := Lib.hid (show dF D L (j + 1) = dF D L j from dF_out HQ.out (by omega))
            have hqk' : decide (0 ≤ q) = false := by simpa using hq0
            go_wp2
            refine ⟨⟨j + 1, by omega, by go_num, by rw [HN2.out]; exact HO3.out, HB3.out, hz3, hk3⟩, by simp [intOf]; omega⟩
        · have hjl : j = L.length := by omega
          subst hjl
          have e1 : (laidD e k).set k ((dF D L L.length : Nat) : Int) = laidD e (k + 1) := HS.out
          have HE1 := Lib.hid e1
          clear hf e1
          go_wp2
          refine ⟨⟨k + 1, by omega, by go_num, by rw [← HE1.out]; exact HO3.out, HB3.out⟩, by simp [intOf]; omega⟩
    · have hkl : k = e.length := by omega
      subst hkl
      have HE := Lib.hid (dOf_all e)
      by_cases hp : 0 < e.length
      · have c1 := (hown.cellAt (e.length - 1) (by omega)).trans (intsOf_get _ _ _ (dOf_last e hp))
        have hp' : ((e.length : Int) == 0) = false := by rw [beq_eq_false_iff_ne]; omega
        have HB := Lib.hid hb
        clear hb hown
        obtain ⟨d, hd⟩ : ∃ d, dOf e e.length = d := ⟨_, rfl⟩
        rw [hd] at c1
        have HD := Lib.hid (show d = ((depthM e : Nat) : Int) from hd.symm.trans HE.out)
        have e2 : (e.length : Int) - 1 = ((e.length - 1 : Nat) : Int) := by omega
        clear hd
        go_wp2
        go_ret
        exact ⟨ret_int HD.out, HB.out⟩
      · have h0 : e = [] := List.length_eq_zero_iff.1 (by omega)
        subst h0
        have HB := Lib.hid hb
        clear hb hown
        go_wp2
        go_ret
        exact ⟨rfl, HB.out⟩
end Go.Proofs.YtobkcdkffcenbaaGreatDoor.Tr

