/- The law's last look at all functions that were made: each has its values, its count, its first values; one node just if the same. Conditions: as it says. -/
import Derived.Test.YtfohjlepknnleaaBdLg
namespace Go.Proofs.Ytfohjlepknnleaa.Bd
open Go.ChangeShapes Go.WideShapes Go.ChangeAt Go.RowKit
set_option linter.unusedVariables false
set_option linter.unusedSimpArgs false

theorem cell_in {w : World} {p : Addr} {v : Value} (h : w.cell? p = some v) : p.block < w.heap.size := by
  unfold World.cell? at h
  split at h
  · rename_i e; exact (Array.getElem?_eq_some_iff.1 e).1
  · cases h
theorem keep_cell {w w' : World} (hb : Below w.heap.size w w') {p : Addr} {v : Value} (h : w.cell? p = some v) : w'.cell? p = some v := (hb.cell (cell_in h)).trans h
theorem row_fun (vars k : Nat) : (fun i => ((List.range vars).map (rowF vars k)).getD i false) = rowF vars k := by
  funext v
  rw [List.getD_eq_getElem?_getD, List.getElem?_map]
  by_cases h : v < vars
  · rw [List.getElem?_range h]; rfl
  · rw [List.getElem?_eq_none (by simp; omega), rowF_out (by omega)]; rfl
theorem tab_cell {w : World} {t vars k : Nat} {P : (Nat → Bool) → Bool} (h : RowB w t (tabD vars P)) (hk : k < 2 ^ vars) : w.cell? ⟨t, k, none⟩ = some (.bool (P (rowF vars k))) := by
  have hl : k < (tabD vars P).length := by rw [tab_len]; exact hk
  have h1 := (h.at hl).1
  have h2 := tab_at P hk
  rw [List.getElem?_eq_getElem hl] at h2
  injection h2 with h2
  rw [h1, h2]
/-- A row, and a function's value there. -/
theorem row_value (B : Nat) (w : World) (b vars budget : Nat) (S : List Nd) (x k g c : Nat) (xv : Value) (hv5 : vars ≤ 5) (hk : k < 2 ^ vars) (hx : x < S.length) (W : World) (h : StAt B W b vars budget S) (hb : Below w.heap.size w W) (hc : W.cell? ⟨g, c, none⟩ = some xv) :
    Calls Try.prog 29 #[.int .i64 (k : Int), .int .i64 (vars : Int)] W (fun e w' => ∃ v, e = .returned v ∧ w'.cell? ⟨g, c, none⟩ = some xv ∧ Calls Try.prog 14 #[.pointer (some ⟨b, 0, none⟩), .int .i64 (x : Int), v] w' (fun e w'' => e = .returned (.tuple #[.bool (den S x (rowF vars k)), .int .i64 0]) ∧ w''.cell? ⟨g, c, none⟩ = some xv ∧ Below w.heap.size w w'')) :=
  (rrow_any W k vars (by omega) hk).mono (by
    rintro e w' ⟨v, rfl, hv, hb1⟩
    have hc1 := keep_cell hb1 hc
    refine ⟨v, rfl, hc1, (value_any B w' b vars budget S (h.below hb1) x hx v _ hv (by simp)).mono ?_⟩
    rintro e w'' ⟨rfl, hb2⟩
    rw [row_fun]
    exact ⟨rfl, keep_cell hb2 hc1, hb.trans ((hb1.trans (hb2.mono hb1.size)).mono hb.size)⟩)
/-- The first values of a function, as the store tells them, and as the document. -/
def firstL (vars : Nat) (S : List Nd) (x : Nat) : List Bool := if x = 0 then [] else witL vars S x
theorem first_len (vars : Nat) (S : List Nd) (x : Nat) : (firstL vars S x).length ≤ vars := by
  unfold firstL witL; split <;> simp
theorem wit_first (B : Nat) (w : World) (b vars budget : Nat) (S : List Nd) (h : StAt B w b vars budget S) (x : Nat) (hx : x < S.length) :
    Calls Try.prog 21 #[.pointer (some ⟨b, 0, none⟩), .int .i64 (x : Int)] w (fun e w' => ∃ v, e = .returned (.tuple #[v, .bool (decide (x ≠ 0))]) ∧ BoolsAt w' v (firstL vars S x) ∧ Below w.heap.size w w') := by
  by_cases h0 : x = 0
  · subst h0
    refine (witness_zero w _).mono ?_
    rintro e w' ⟨rfl, rfl⟩
    exact ⟨_, rfl, ⟨none, 0, rfl, fun i x h => by simp [firstL] at h⟩, Below.refl _ _⟩
  · refine (witness_any B w b vars budget S h x hx h0).mono ?_
    rintro e w' ⟨⟨g, rfl, hr⟩, hb⟩
    refine ⟨_, by rw [decide_eq_true h0], ?_, hb⟩
    unfold firstL
    rw [if_neg h0]
    exact hr.bools (n := vars) (by simp)
theorem rwit_first (w : World) (vars t x : Nat) (S : List Nd) (G : Good vars S) (hx : x < S.length) (hv : vars ≤ 5) (h : RowB w t (tabD vars (den S x))) :
    Calls Try.prog 30 #[.slice (some ⟨t, 0, none⟩) (2 ^ vars) (2 ^ vars), .int .i64 (vars : Int)] w (fun e w' => ∃ v, e = .returned (.tuple #[v, .bool (decide (x ≠ 0))]) ∧ BoolsAt w' v (firstL vars S x) ∧ Below w.heap.size w w') := by
  refine (rwit_any w _ _ (2 ^ vars) vars (by omega) rfl (tab_bools h) (tab_len _ _)).mono ?_
  rintro e w' (⟨k, v, hk, hp, hn, rfl, hr, hb⟩ | ⟨hn, rfl, rfl⟩)
  · rw [tab_len] at hk
    rw [tab_getD _ hk] at hp
    obtain ⟨h0, h1⟩ := wit_doc G hx hk hp (fun j hj => by have := hn j hj; rwa [tab_getD _ (by omega)] at this)
    refine ⟨v, by rw [decide_eq_true h0], ?_, hb⟩
    unfold firstL
    rw [if_neg h0, h1]
    exact hr
  · rw [tab_len] at hn
    have h0 := wit_doc_none G hx (fun j hj => by have := hn j hj; rwa [tab_getD _ hj] at this)
    subst h0
    exact ⟨_, rfl, ⟨none, 0, rfl, fun i x h => by simp [firstL] at h⟩, Below.refl _ _⟩
/-- What lies there of a function. -/
structure MdAt (w : World) (g vars : Nat) (S : List Nd) (i x t : Nat) : Prop where
  c0 : w.cell? ⟨g, i * 2, none⟩ = some (.int .i64 (x : Int))
  c1 : w.cell? ⟨g, i * 2 + 1, none⟩ = some (.slice (some ⟨t, 0, none⟩) (2 ^ vars) (2 ^ vars))
  lt : x < S.length
  row : RowB w t (tabD vars (den S x))
theorem MdAt.below {w w' : World} {g vars : Nat} {S : List Nd} {i x t : Nat} (h : MdAt w g vars S i x t) (hb : Below w.heap.size w w') : MdAt w' g vars S i x t :=
  ⟨keep_cell hb h.c0, keep_cell hb h.c1, h.lt, h.row.keeps (Keeps.of hb)⟩
theorem Mds.pick {B : Nat} {w : World} {A : Option Addr} {n c : Nat} {vars : Nat} {S : List Nd} {l : List (Nat × Nat)} (h : Mds B w (.slice A n c) vars S l) {i : Nat} (hi : i < l.length) : ∃ x t g, A = some ⟨g, 0, none⟩ ∧ MdAt w g vars S i x t := by
  obtain ⟨⟨x, t⟩, hl⟩ : ∃ q, l[i]? = some q := ⟨_, List.getElem?_eq_getElem hi⟩
  obtain ⟨g, e, c0, c1⟩ := h.at hl
  obtain ⟨h1, h2⟩ := h.each i x t hl
  exact ⟨x, t, g, e, c0, c1, h1, h2⟩

theorem same_tab {vars : Nat} {S : List Nd} (G : Good vars S) {x y : Nat} (hx : x < S.length) (hy : y < S.length) : decide (tabD vars (den S x) = tabD vars (den S y)) = decide (x = y) := by
  have := same_iff G hx hy
  by_cases e : x = y
  · rw [decide_eq_true e, decide_eq_true (this.1 e)]
  · rw [decide_eq_false e, decide_eq_false (fun h => e (this.2 h))]
set_option maxRecDepth 100000 in
set_option maxHeartbeats 4000000 in
theorem all_any (B : Nat) (w : World) (b vars budget : Nat) (S : List Nd) (h : StAt B w b vars budget S) (hv5 : vars ≤ 5) (v : Value) (l : List (Nat × Nat)) (hm : Mds B w v vars S l) (hl : l.length ≤ 1000) :
    Calls Try.prog 13 #[.pointer (some ⟨b, 0, none⟩), .int .i64 (vars : Int), v] w (fun e w' => e = .returned (.bool true) ∧ Below w.heap.size w w') := by
  obtain ⟨A, c, rfl, hlc, hcm⟩ := hm.form
  have HG := Lib.hid h.good
  have HPK : Hid (∀ i, i < l.length → ∃ x t g, A = some ⟨g, 0, none⟩ ∧ MdAt w g vars S i x t) := Lib.hid (fun i hi => hm.pick hi)
  obtain ⟨n, hn⟩ : ∃ n, l.length = n := ⟨_, rfl⟩
  rw [hn] at HPK hlc hl ⊢
  obtain ⟨p, hp⟩ : ∃ p, 2 ^ vars = p := ⟨_, rfl⟩
  have hp32 : p ≤ 32 := by rw [← hp]; exact (show 2 ^ vars ≤ 2 ^ 5 from Nat.pow_le_pow_right (by omega) hv5)
  have HPP := Lib.hid hp
  have HST := Lib.hid h
  unfold maxLen at hcm
  clear h hm hn hp
  go_enter Try.func13, Try.ntmps13
  go_wp2_with fail
  go_loopw [7] (fun vi wr => ∃ i : Nat, i ≤ n ∧ vi = .int .i64 (i : Int) ∧ Below w.heap.size w wr) (fun vi _ => n - intV vi)
  case atStart => exact ⟨0, Nat.zero_le _, rfl, Below.refl _ _⟩
  case round =>
    obtain ⟨i, hi, rfl, hbw⟩ := hrel
    by_cases hin : i < n
    · obtain ⟨x, t, g, rfl, hmd⟩ := HPK.out i hin
      have hmd1 := hmd.below hbw
      have HMD := Lib.hid hmd
      obtain ⟨c0, c1, hlt, hrow⟩ := hmd1
      have HLT := Lib.hid hlt
      have HBW := Lib.hid hbw
      rw [HPP.out] at c1
      have HRW := Lib.hid hrow
      clear hmd hbw hrow hlt
      obtain ⟨wm, hwm⟩ : ∃ W, W = wr := ⟨_, rfl⟩
      subst hwm
      go_wp2_with fail
      go_loopw [8] (fun vk wq => ∃ k : Nat, k ≤ p ∧ vk = .int .i64 (k : Int) ∧ Below w.heap.size w wq) (fun vk _ => p - intV vk)
      case atStart => exact ⟨0, Nat.zero_le _, rfl, HBW.out⟩
      obtain ⟨k, hk, rfl, hbq⟩ := hrel
      have HBQ := Lib.hid hbq
      have hmq := HMD.out.below hbq
      have d0 := hmq.c0
      have d1 := hmq.c1
      rw [HPP.out] at d1
      clear hmq hbq c0 c1
      by_cases hkp : k < p
      · have hkp2 : k < 2 ^ vars := by rw [HPP.out]; exact hkp
        have HCH := Lib.hid (fun W (hb : Below w.heap.size w W) => row_value B w b vars budget S x k g (i * 2) (.int .i64 (x : Int)) hv5 hkp2 HLT.out W (HST.out.below hb) hb (HMD.out.below hb).c0)
        have HK2 := Lib.hid hkp2
        clear hkp2
        go_wp2_with fail
        go_region_held3 (fun W => W.cell? ⟨g, i * 2, none⟩ = some (.int .i64 (x : Int))) (first | go_keep | exact d0 | exact p1 | exact p2)
          (first
            | (go_at_call 14; with_reducible refine HC2.out.mono ?_; rintro r w5 ⟨rfl, p2, hb5⟩; have HB5 := Lib.hid hb5; clear hb5)
            | (go_at_call 29; with_reducible refine (HCH.out _ (by first | exact HBQ.out | exact HBQ.out.drew)).mono ?_; rintro r w4 ⟨v4, rfl, p1, hc2⟩; have HC2 := Lib.hid hc2; clear hc2))
        all_goals
          have hm5 := HMD.out.below HB5.out
          have e1 := hm5.c1
          have e2 := tab_cell hm5.row HK2.out
          rw [HPP.out] at e1
          clear hm5
          obtain ⟨bv, hbv⟩ : ∃ z, den S x (rowF vars k) = z := ⟨_, rfl⟩
          rw [hbv] at e2 ⊢
          clear hbv HC2
          go_wp2
          refine ⟨⟨k + 1, by omega, by go_num, HB5.out⟩, by simp [intV]; omega⟩
      · obtain rfl : k = p := by omega
        have HCA := Lib.hid (count_any B wr b vars budget S (HST.out.below HBQ.out) x HLT.out)
        obtain ⟨ca, hca⟩ : ∃ z, cntD vars S x = z := ⟨_, rfl⟩
        rw [hca] at HCA
        have hcp : ca ≤ 32 := by
          have := cnt_not vars 0 (den S x) (fun r => !(den S x r)) (fun r => rfl) zeros
          rw [HPP.out] at this
          unfold cntD at hca; omega
        have HCV := Lib.hid hca
        clear hca
        go_wp2_with fail
        refine HCA.out.mono ?_
        rintro e w6 ⟨rfl, hb6⟩
        have HB6 := Lib.hid (HBQ.out.trans (hb6.mono HBQ.out.size))
        have d6 := (HMD.out.below HB6.out).c0
        have HWI := Lib.hid (wit_first B w6 b vars budget S (HST.out.below HB6.out) x HLT.out)
        obtain ⟨L, hL⟩ : ∃ z, firstL vars S x = z := ⟨_, rfl⟩
        have hLl := first_len vars S x
        rw [hL] at HWI hLl
        have HLL := Lib.hid hL
        obtain ⟨dx, hdx⟩ : ∃ z, decide (x ≠ 0) = z := ⟨_, rfl⟩
        rw [hdx] at HWI
        have HDX := Lib.hid hdx
        clear hL hb6 hdx
        go_wp2_with fail
        refine HWI.out.mono ?_
        rintro e w7 ⟨va, rfl, ha7, hb7⟩
        have HB7 := Lib.hid (HB6.out.trans (hb7.mono HB6.out.size))
        have HA7 := Lib.hid ha7
        have hm7 := HMD.out.below HB7.out
        have d7 := hm7.c1
        rw [HPP.out] at d7
        have HWD := Lib.hid (rwit_first w7 vars t x S HG.out HLT.out hv5 hm7.row)
        rw [HLL.out, HDX.out, HPP.out] at HWD
        clear ha7 hb7 hm7
        go_wp2_with fail
        refine HWD.out.mono ?_
        rintro e w8 ⟨vb, rfl, hb8, hbb8⟩
        have HB8 := Lib.hid (HB7.out.trans (hbb8.mono HB7.out.size))
        have HA8 := Lib.hid (HA7.out.below hbb8)
        have HBB8 := Lib.hid hb8
        have hm8 := HMD.out.below HB8.out
        have d8 := hm8.c1
        rw [HPP.out] at d8
        have HCN : Hid (Calls Try.prog 31 #[.slice (some ⟨t, 0, none⟩) k k] w8 (fun e w' => e = .returned (.int .i64 (ca : Int)) ∧ w' = w8)) := Lib.hid (by
          have h1 := rcount_any w8 _ _ (2 ^ vars) (by rw [HPP.out]; omega) (tab_bools hm8.row) (tab_len _ _)
          rw [cntD_tab, HCV.out, HPP.out] at h1
          exact h1)
        have HSM : Hid (Calls Try.prog 23 #[va, vb] w8 (fun e w' => e = .returned (.bool true) ∧ Below w8.heap.size w8 w')) := Lib.hid (by
          have h1 := rsame_any w8 va vb L L (by omega) (by omega) HA8.out HBB8.out
          rw [decide_eq_true rfl] at h1
          exact h1)
        clear hb8 hbb8 hm8
        go_wp2_with fail
        refine HCN.out.mono ?_
        rintro e w8' ⟨rfl, hw8⟩
        subst hw8
        go_wp2_with fail
        refine HSM.out.mono ?_
        rintro e w9 ⟨rfl, hb9⟩
        have HB9 := Lib.hid (HB8.out.trans (hb9.mono HB8.out.size))
        clear hb9 HCN HSM HWD HWI HCA d6 d7 d8 d0 d1
        go_wp2_with fail
        obtain ⟨wn, hwn⟩ : ∃ W, W = w9 := ⟨_, rfl⟩
        subst hwn
        go_loopw [17] (fun vj wq => ∃ j : Nat, j ≤ i ∧ vj = .int .i64 (j : Int) ∧ Below w.heap.size w wq) (fun vj _ => i - intV vj)
        case atStart => exact ⟨0, Nat.zero_le _, rfl, HB9.out⟩
        obtain ⟨j, hj, rfl, hbj⟩ := hrel
        have HBJ := Lib.hid hbj
        by_cases hji : j < i
        · obtain ⟨y, t2, g2, eg, hmy⟩ := HPK.out j (by omega)
          obtain rfl : g = g2 := by injection eg with eg; injection eg
          have HMY := Lib.hid hmy
          have hjn : j < n := by omega
          have HLY := Lib.hid hmy.lt
          have HC5 : Hid (∀ W, Below w.heap.size w W → (W.cell? ⟨g, j * 2, none⟩ = some (.int .i64 (y : Int)) ∧ W.cell? ⟨g, i * 2, none⟩ = some (.int .i64 (x : Int))) ∧ W.cell? ⟨g, j * 2 + 1, none⟩ = some (.slice (some ⟨t2, 0, none⟩) k k) ∧ W.cell? ⟨g, i * 2 + 1, none⟩ = some (.slice (some ⟨t, 0, none⟩) k k)) := Lib.hid (fun W hb => by
            have m1 := HMD.out.below hb
            have m2 := HMY.out.below hb
            have q1 := m1.c1
            have q2 := m2.c1
            rw [HPP.out] at q1 q2
            exact ⟨⟨m2.c0, m1.c0⟩, q2, q1⟩)
          have HCH : Hid (∀ W, Below w.heap.size w W → Calls Try.prog 23 #[.slice (some ⟨t2, 0, none⟩) k k, .slice (some ⟨t, 0, none⟩) k k] W (fun e w' => e = .returned (.bool (decide (y = x))) ∧ ((w'.cell? ⟨g, j * 2, none⟩ = some (.int .i64 (y : Int)) ∧ w'.cell? ⟨g, i * 2, none⟩ = some (.int .i64 (x : Int))) ∧ w'.cell? ⟨g, j * 2 + 1, none⟩ = some (.slice (some ⟨t2, 0, none⟩) k k) ∧ w'.cell? ⟨g, i * 2 + 1, none⟩ = some (.slice (some ⟨t, 0, none⟩) k k)) ∧ Below w.heap.size w w')) := Lib.hid (fun W hb => by
            have h1 := rsame_any W _ _ _ _ (by rw [tab_len, HPP.out]; omega) (by rw [tab_len, HPP.out]; omega) (tab_bools (HMY.out.below hb).row) (tab_bools (HMD.out.below hb).row)
            rw [same_tab HG.out HLY.out HLT.out, HPP.out] at h1
            refine h1.mono ?_
            rintro e w' ⟨rfl, hb2⟩
            have hb3 := hb.trans (hb2.mono hb.size)
            exact ⟨rfl, HC5.out w' hb3, hb3⟩)
          obtain ⟨⟨z0, z1⟩, z2, z3⟩ := HC5.out wr HBJ.out
          clear hmy hbj eg
          by_cases hxy : y = x
          · subst hxy
            rw [decide_eq_true rfl] at HCH
            go_wp2_with fail
            go_region_held3 (fun W => (W.cell? ⟨g, j * 2, none⟩ = some (.int .i64 (y : Int)) ∧ W.cell? ⟨g, i * 2, none⟩ = some (.int .i64 (y : Int))) ∧ W.cell? ⟨g, j * 2 + 1, none⟩ = some (.slice (some ⟨t2, 0, none⟩) k k) ∧ W.cell? ⟨g, i * 2 + 1, none⟩ = some (.slice (some ⟨t, 0, none⟩) k k)) (first | go_keep | exact ⟨⟨z0, z1⟩, z2, z3⟩ | exact p1)
              (first
                | (go_at_call 23; with_reducible refine (HCH.out _ (by first | exact HBJ.out | exact HBJ.out.drew)).mono ?_; rintro r w5 ⟨rfl, p1, hb5⟩; have HB5 := Lib.hid hb5; clear hb5))
            all_goals
              go_wp2
              refine ⟨⟨j + 1, by omega, by go_num, HB5.out⟩, by simp [intV]; omega⟩
          · have hne : ¬ (y : Int) = (x : Int) := by omega
            rw [decide_eq_false hxy] at HCH
            go_wp2_with fail
            go_region_held3 (fun W => (W.cell? ⟨g, j * 2, none⟩ = some (.int .i64 (y : Int)) ∧ W.cell? ⟨g, i * 2, none⟩ = some (.int .i64 (x : Int))) ∧ W.cell? ⟨g, j * 2 + 1, none⟩ = some (.slice (some ⟨t2, 0, none⟩) k k) ∧ W.cell? ⟨g, i * 2 + 1, none⟩ = some (.slice (some ⟨t, 0, none⟩) k k)) (first | go_keep | exact ⟨⟨z0, z1⟩, z2, z3⟩ | exact p1)
              (first
                | (go_at_call 23; with_reducible refine (HCH.out _ (by first | exact HBJ.out | exact HBJ.out.drew)).mono ?_; rintro r w5 ⟨rfl, p1, hb5⟩; have HB5 := Lib.hid hb5; clear hb5))
            all_goals
              go_wp2
              refine ⟨⟨j + 1, by omega, by go_num, HB5.out⟩, by simp [intV]; omega⟩
        · obtain rfl : j = i := by omega
          go_wp2
          refine ⟨⟨j + 1, by omega, by go_num, HBJ.out⟩, by simp [intV]; omega⟩
    · obtain rfl : i = n := by omega
      go_wp2
      refine bodyPost_ret (v := .bool true) (by simp [results, Try.results13, go_sem]) rfl ⟨rfl, hbw⟩
end Go.Proofs.Ytfohjlepknnleaa.Bd
