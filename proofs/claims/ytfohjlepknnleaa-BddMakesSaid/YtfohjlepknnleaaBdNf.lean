/- A function's value. Conditions: none. The first values at which a function is true: Witness. Conditions: none. The first values at which a function is true: Witness. Conditions: none. -/
import Derived.Test.YtfohjlepknnleaaBdV
import Derived.Test.YtfohjlepknnleaaBdMa
import Derived.Laws.EntriesVeiled
import Derived.Test.YtfohjlepknnleaaBdT
import Derived.Deep.OwnRows
import Derived.Laws.CopyOwn
namespace Go.Proofs.Ytfohjlepknnleaa.Bd
open Go.ChangeShapes Go.WideShapes Go.ChangeAt Go.RowKit
set_option linter.unusedVariables false
set_option linter.unusedSimpArgs false

/-- Truths in a row. -/
def BoolsAt (w : World) (v : Value) (l : List Bool) : Prop :=
  ∃ A c, v = .slice A l.length c ∧ ∀ (i : Nat) (x : Bool), l[i]? = some x → ∃ g o, A = some ⟨g, o, none⟩ ∧ w.cell? ⟨g, o + i, none⟩ = some (.bool x)
theorem BoolsAt.below {w w' : World} {v : Value} {l : List Bool} (h : BoolsAt w v l) (hb : Below w.heap.size w w') : BoolsAt w' v l := by
  obtain ⟨A, c, h1, h2⟩ := h
  refine ⟨A, c, h1, fun i x hx => ?_⟩
  obtain ⟨g, o, h3, h4⟩ := h2 i x hx
  refine ⟨g, o, h3, ?_⟩
  rw [World.cell?_of_block (hb.block _ (block_lt_of_cell h4))]
  exact h4

set_option maxRecDepth 100000 in
set_option maxHeartbeats 1600000 in
theorem value_bad (w : World) (pt : Value) (n : Nat) (h : PtAt w pt n) (f : Int) (v : Value) (hb : hasB n [f] = false) :
    Calls Try.prog 14 #[pt, .int .i64 f, v] w (fun e w' => e = .returned (.tuple #[.bool false, .int .i64 1]) ∧ Below w.heap.size w w') := by
  obtain ⟨w1, hw1⟩ : ∃ W, w.alloc (.cells #[.int .i64 f] 3) = W := ⟨_, rfl⟩
  have hB : Below w.heap.size w w1 := by rw [← hw1]; exact below_new _ _
  have hc := phas_any w1 pt n _ [f] (h.below hB) (ints_one w f w1 hw1) (by simp)
  rw [hb] at hc
  have HC := Lib.hid hc
  have HB := Lib.hid hB
  clear hc h hb hB
  go_enter Try.func14, Try.ntmps14
  go_wp2_with (go_at_call 32; with_reducible refine HC.out.mono ?_; rintro e w2 ⟨rfl, rfl⟩)
  refine bodyPost_ret (v := .tuple #[.bool false, .int .i64 1]) (by simp [results, Try.results14, go_sem]) rfl ⟨rfl, HB.out⟩

set_option maxRecDepth 100000 in
set_option maxHeartbeats 1600000 in
theorem value_other (B : Nat) (w : World) (b vars budget : Nat) (S : List Nd) (h : StAt B w b vars budget S) (f : Nat) (hf : f < S.length) (A : Option Addr) (n c : Nat) (hn : n ≠ vars) (hn2 : n ≤ 1000000) :
    Calls Try.prog 14 #[.pointer (some ⟨b, 0, none⟩), .int .i64 (f : Int), .slice A n c] w (fun e w' => e = .returned (.tuple #[.bool false, .int .i64 1]) ∧ Below w.heap.size w w') := by
  obtain ⟨nv, pb, h⟩ := h
  obtain ⟨w1, hw1⟩ : ∃ W, w.alloc (.cells #[.int .i64 (f : Int)] 3) = W := ⟨_, rfl⟩
  have hB : Below w.heap.size w w1 := by rw [← hw1]; exact below_new _ _
  have h1 := h.below hB
  have hp : PtAt w1 (.pointer (some ⟨b, 0, none⟩)) S.length := .inr ⟨B, b, vars, budget, nv, pb, S, rfl, h1, rfl⟩
  have hc := phas_any w1 _ _ _ [(f : Int)] hp (ints_one w f w1 hw1) (by simp)
  have ht : hasB S.length [(f : Int)] = true := by rw [has_one]; simp; omega
  rw [ht] at hc
  obtain ⟨y0, y1, y2, y3⟩ := h1.box.ats
  have hv := h.hv
  have hne : ¬ ((n : Int) = (vars : Int)) := by omega
  have HC := Lib.hid hc
  have HB := Lib.hid hB
  clear hc h h1 hp hB hf ht
  go_enter Try.func14, Try.ntmps14
  go_wp2_with (go_at_call 32; with_reducible refine HC.out.mono ?_; rintro e w2 ⟨rfl, hw2⟩; subst hw2)
  refine bodyPost_ret (v := .tuple #[.bool false, .int .i64 1]) (by simp [results, Try.results14, go_sem]) rfl ⟨rfl, HB.out⟩

set_option maxRecDepth 100000 in
set_option maxHeartbeats 1600000 in
/-- A function's value. -/
theorem value_any (B : Nat) (w : World) (b vars budget : Nat) (S : List Nd) (h : StAt B w b vars budget S) (f : Nat) (hf : f < S.length) (v : Value) (l : List Bool) (hv : BoolsAt w v l) (hl : l.length = vars) :
    Calls Try.prog 14 #[.pointer (some ⟨b, 0, none⟩), .int .i64 (f : Int), v] w (fun e w' => e = .returned (.tuple #[.bool (den S f (fun i => l.getD i false)), .int .i64 0]) ∧ Below w.heap.size w w') := by
  obtain ⟨nv, pb, h⟩ := h
  obtain ⟨w1, hw1⟩ : ∃ W, w.alloc (.cells #[.int .i64 (f : Int)] 3) = W := ⟨_, rfl⟩
  have hB : Below w.heap.size w w1 := by rw [← hw1]; exact below_new _ _
  have h1 := h.below hB
  have hp : PtAt w1 (.pointer (some ⟨b, 0, none⟩)) S.length := .inr ⟨B, b, vars, budget, nv, pb, S, rfl, h1, rfl⟩
  have hc := phas_any w1 _ _ _ [(f : Int)] hp (ints_one w f w1 hw1) (by simp)
  have ht : hasB S.length [(f : Int)] = true := by rw [has_one]; simp; omega
  rw [ht] at hc
  have hv1 := hv.below hB
  obtain ⟨A, c, rfl, hA⟩ := hv1
  obtain ⟨y0, y1, y2, y3⟩ := h1.box.ats
  have hvars := h.hv
  have hlen := h.hlen
  have hbud := h.hbud
  have HC := Lib.hid hc
  have HB := Lib.hid hB
  have HS := Lib.hid h1
  have HA := Lib.hid hA
  have HF := Lib.hid hf
  have HL := Lib.hid hl
  rw [hl]
  clear hc h h1 hp hB ht hv hA hf hl
  go_enter Try.func14, Try.ntmps14
  go_wp2_with fail
  refine HC.out.mono ?_
  rintro e w2 ⟨rfl, hw2⟩
  subst hw2
  clear hw1
  go_wp2_with fail
  go_loopw [1] (fun fi wr => ∃ k : Nat, fi = .int .i64 (k : Int) ∧ k < S.length ∧ Below w2.heap.size w2 wr ∧ den S k (fun i => l.getD i false) = den S f (fun i => l.getD i false)) (fun fi _ => intV fi)
  case atStart => exact ⟨f, rfl, HF.out, Below.refl _ _, rfl⟩
  case round =>
    obtain ⟨k, rfl, hk, hb, hden⟩ := hrel
    have HK := Lib.hid hk
    have HBW := Lib.hid hb
    have HD := Lib.hid hden
    by_cases h2 : k < 2
    · have hdk : decide ((1 : Int) < (k : Int)) = false := decide_eq_false (by omega)
      have HKD : Hid (((k : Int) == 1) = den S f (fun i => l.getD i false)) := Lib.hid (by
        rw [← hden]
        have : k = 0 ∨ k = 1 := by omega
        rcases this with rfl | rfl
        · rw [den_zero]; rfl
        · rw [den_one]; rfl)
      clear hk hb hden
      go_wp2_with fail
      rw [HKD.out]
      refine bodyPost_ret (v := .tuple #[.bool (den S f (fun i => l.getD i false)), .int .i64 0]) (by simp [results, Try.results14, go_sem]) rfl ⟨rfl, HB.out.trans (HBW.out.mono HB.out.size)⟩
    · obtain ⟨t, lo, hi, hnd⟩ := at_of hk
      obtain ⟨ht, hlv, hlo, hhi, _, _⟩ := HS.out.good.node k t lo hi (by omega) hnd
      obtain ⟨g, cap, hnv, q0, q1, q2⟩ := row_at (HS.out.below hb).row hnd
      have z2 := (HS.out.below hb).box.ats.2.2.1
      rw [hnv] at z2
      obtain ⟨x, hx⟩ : ∃ x, l[t]? = some x := ⟨_, List.getElem?_eq_getElem (by rw [HL.out]; exact ht)⟩
      obtain ⟨ga, oa, rfl, qa⟩ := HA.out t x hx
      have qa' : wr.cell? ⟨ga, oa + t, none⟩ = some (.bool x) := by
        rw [World.cell?_of_block (hb.block _ (block_lt_of_cell qa))]; exact qa
      have qb : (wr.alloc (.cells #[.int .i64 (t : Int), .int .i64 (lo : Int), .int .i64 (hi : Int)] 59)).cell? ⟨ga, oa + t, none⟩ = some (.bool x) := by
        rw [World.cell?_of_block ((below_new wr _).block _ (block_lt_of_cell qa'))]; exact qa'
      have hdt : den S f (fun i => l.getD i false) = if x then den S hi (fun i => l.getD i false) else den S lo (fun i => l.getD i false) := by
        rw [← hden, den_step HS.out.good (by omega) hnd]
        have : l.getD t false = x := by rw [List.getD_eq_getElem?_getD, hx]; rfl
        rw [this]
      have HDT := Lib.hid hdt
      have HB2 : Hid (Below w2.heap.size w2 (wr.alloc (.cells #[.int .i64 (t : Int), .int .i64 (lo : Int), .int .i64 (hi : Int)] 59))) := Lib.hid (hb.trans ((below_new wr _).mono hb.size))
      clear hb hden hnv hnd hx hdt
      cases x
      · go_wp2_with fail
        go_roundw
        case rel => exact ⟨lo, rfl, by have := HK.out; omega, HB2.out, by have := HDT.out; simpa using this.symm⟩
        case measure => simp [intV]; omega
      · go_wp2_with fail
        go_roundw
        case rel => exact ⟨hi, rfl, by have := HK.out; omega, HB2.out, by have := HDT.out; simpa using this.symm⟩
        case measure => simp [intV]; omega
end Go.Proofs.Ytfohjlepknnleaa.Bd

namespace Go.Proofs.Ytfohjlepknnleaa.Bd
open Go.ChangeShapes Go.WideShapes Go.ChangeAt Go.RowKit
set_option linter.unusedVariables false
set_option linter.unusedSimpArgs false

theorem infoB : (Try.prog.info? 4).map (fun i => (i.zero, i.size, i.bytes)) = some (some (.bool false), 1, 1) := by kernel_rfl
/-- What has been set on the way down to k. -/
def witR (S : List Nd) (f vars k : Nat) : List Bool := (List.range vars).map (fun v => if v < tst S k then witF S f f v else false)
/-- From where k is on, what k's own way sets. -/
def WitAt (S : List Nd) (f k : Nat) : Prop := k ≠ 0 ∧ k < S.length ∧ ∃ m, k ≤ m ∧ ∀ v, tst S k ≤ v → witF S f f v = witF S m k v
theorem WitAt.start {S : List Nd} {f : Nat} (h0 : f ≠ 0) (hf : f < S.length) : WitAt S f f := ⟨h0, hf, f, Nat.le_refl _, fun _ _ => rfl⟩
theorem wit_start {vars : Nat} {S : List Nd} {f : Nat} (G : Good vars S) (hf : f < S.length) : witR S f vars f = List.replicate vars false := by
  unfold witR
  have : (fun v => if v < tst S f then witF S f f v else false) = fun _ => false := by
    funext v
    by_cases h : v < tst S f
    · rw [if_pos h]; exact wit_far G f f v hf h
    · rw [if_neg h]
  rw [this]
  simp [List.map_const']
theorem wit_end {vars : Nat} {S : List Nd} {f : Nat} (G : Good vars S) : witR S f vars 1 = (List.range vars).map (witF S f f) := by
  unfold witR
  rw [tst_at G.n1]
  exact List.map_congr_left (fun v hv => by rw [if_pos (List.mem_range.mp hv)])
theorem wit_low {vars : Nat} {S : List Nd} {f k t lo hi : Nat} (G : Good vars S) (h2 : 2 ≤ k) (hnd : S[k]? = some (t, lo, hi)) (h0 : lo ≠ 0) (h : WitAt S f k) : WitAt S f lo ∧ witR S f vars lo = witR S f vars k := by
  obtain ⟨a, b, m, c, d⟩ := h
  obtain ⟨e1, e2, e3, e4, e5, e6⟩ := G.node k t lo hi h2 hnd
  rw [tst_at hnd] at d
  obtain ⟨m, rfl⟩ : ∃ m', m = m' + 1 := ⟨m - 1, by omega⟩
  have d2 : ∀ v, t ≤ v → witF S f f v = witF S m lo v := fun v hv => by rw [d v hv, wit_step h2 hnd, if_neg h0]
  refine ⟨⟨h0, by omega, m, by omega, fun v hv => d2 v (by omega)⟩, ?_⟩
  unfold witR
  rw [tst_at hnd]
  refine List.map_congr_left (fun v _ => ?_)
  by_cases hv : v < t
  · rw [if_pos hv, if_pos (by omega)]
  · rw [if_neg hv]
    by_cases hv2 : v < tst S lo
    · rw [if_pos hv2, d2 v (by omega)]; exact wit_far G m lo v (by omega) hv2
    · rw [if_neg hv2]
theorem wit_high {vars : Nat} {S : List Nd} {f k t hi : Nat} (G : Good vars S) (h2 : 2 ≤ k) (hnd : S[k]? = some (t, 0, hi)) (h : WitAt S f k) : WitAt S f hi ∧ witR S f vars hi = (witR S f vars k).set t true := by
  obtain ⟨a, b, m, c, d⟩ := h
  obtain ⟨e1, e2, e3, e4, e5, e6⟩ := G.node k t 0 hi h2 hnd
  rw [tst_at hnd] at d
  obtain ⟨m, rfl⟩ : ∃ m', m = m' + 1 := ⟨m - 1, by omega⟩
  have d2 : ∀ v, t ≤ v → witF S f f v = if v = t then true else witF S m hi v := fun v hv => by rw [d v hv, wit_step h2 hnd, if_pos rfl]
  refine ⟨⟨by omega, by omega, m, by omega, fun v hv => by rw [d2 v (by omega), if_neg (by omega)]⟩, ?_⟩
  unfold witR
  apply List.ext_getElem?
  intro i
  rw [List.getElem?_set]
  by_cases hi1 : t = i
  · subst hi1
    rw [if_pos rfl]
    simp [e1, e6, d2]
  · rw [if_neg hi1]
    simp only [List.getElem?_map, List.getElem?_range', tst_at hnd]
    by_cases hl : i < vars
    · rw [List.getElem?_range hl]
      simp only [Option.map_some]
      by_cases hv : i < t
      · rw [if_pos hv, if_pos (by omega)]
      · rw [if_neg hv]
        by_cases hv2 : i < tst S hi
        · rw [if_pos hv2, d2 i (by omega), if_neg (by omega), wit_far G m hi i (by omega) hv2]
        · rw [if_neg hv2]
    · rw [List.getElem?_eq_none (by simpa using hl)]
      rfl
end Go.Proofs.Ytfohjlepknnleaa.Bd

namespace Go.Proofs.Ytfohjlepknnleaa.Bd
open Go.ChangeShapes Go.WideShapes Go.ChangeAt Go.RowKit
set_option linter.unusedVariables false
set_option linter.unusedSimpArgs false

set_option maxRecDepth 100000 in
set_option maxHeartbeats 1600000 in
theorem witness_zero (w : World) (pt : Value) :
    Calls Try.prog 21 #[pt, .int .i64 0] w (fun e w' => e = .returned (.tuple #[.slice none 0 0, .bool false]) ∧ w' = w) := by
  go_enter Try.func21, Try.ntmps21
  go_wp2_with fail
  refine bodyPost_ret (v := .tuple #[.slice none 0 0, .bool false]) (by simp [results, Try.results21, go_sem]) rfl ⟨rfl, rfl⟩

set_option maxRecDepth 100000 in
set_option maxHeartbeats 1600000 in
theorem witness_bad (w : World) (pt : Value) (n : Nat) (h : PtAt w pt n) (f : Int) (hb : hasB n [f] = false) :
    Calls Try.prog 21 #[pt, .int .i64 f] w (fun e w' => e = .returned (.tuple #[.slice none 0 0, .bool false]) ∧ Below w.heap.size w w') := by
  obtain ⟨w1, hw1⟩ : ∃ W, w.alloc (.cells #[.int .i64 f] 3) = W := ⟨_, rfl⟩
  have hB : Below w.heap.size w w1 := by rw [← hw1]; exact below_new _ _
  have hc := phas_any w1 pt n _ [f] (h.below hB) (ints_one w f w1 hw1) (by simp)
  rw [hb] at hc
  by_cases h0 : f = 0
  · subst h0
    exact (witness_zero w pt).mono (fun e w' ⟨a, b⟩ => ⟨a, by rw [b]; exact Below.refl _ _⟩)
  have h0b : ((f : Int) == 0) = false := by simp [h0]
  have HC := Lib.hid hc
  have HB := Lib.hid hB
  clear hc h hb hB
  go_enter Try.func21, Try.ntmps21
  go_wp2_with (go_at_call 32; with_reducible refine HC.out.mono ?_; rintro e w2 ⟨rfl, rfl⟩)
  refine bodyPost_ret (v := .tuple #[.slice none 0 0, .bool false]) (by simp [results, Try.results21, go_sem]) rfl ⟨rfl, HB.out⟩

/-- A row of truths in a block of its own. -/
def RowB (w : World) (g : Nat) (l : List Bool) : Prop := w.heap[g]? = some (.cells (l.map Value.bool).toArray 4 (0, 0))
theorem RowB.at {w : World} {g : Nat} {l : List Bool} (h : RowB w g l) {i : Nat} (hi : i < l.length) : w.cell? ⟨g, i, none⟩ = some (.bool l[i]) ∧ w.frozen? ⟨g, i, none⟩ = false := by
  unfold RowB at h
  constructor
  · unfold World.cell?; rw [h]; simp [hi]
  · unfold World.frozen?; rw [h]; simp
theorem RowB.set {w : World} {g : Nat} {l : List Bool} (h : RowB w g l) (i : Nat) (b : Bool) : RowB (w.setCell ⟨g, i, none⟩ (.bool b)) g (l.set i b) := by
  unfold RowB at h ⊢
  simp [World.setCell, Array.getElem?_modify, h, List.map_set]
theorem RowB.bools {w : World} {g n : Nat} {l : List Bool} (h : RowB w g l) (hn : l.length = n) : BoolsAt w (.slice (some ⟨g, 0, none⟩) n n) l := by
  subst hn
  refine ⟨_, _, rfl, fun i x hx => ⟨g, 0, rfl, ?_⟩⟩
  obtain ⟨hi, rfl⟩ := List.getElem?_eq_some_iff.mp hx
  rw [Nat.zero_add]
  exact (h.at hi).1

set_option maxRecDepth 100000 in
set_option maxHeartbeats 1600000 in
/-- The first values at which a function is true. -/
theorem witness_any (B : Nat) (w : World) (b vars budget : Nat) (S : List Nd) (h : StAt B w b vars budget S) (f : Nat) (hf : f < S.length) (h0 : f ≠ 0) :
    Calls Try.prog 21 #[.pointer (some ⟨b, 0, none⟩), .int .i64 (f : Int)] w (fun e w' => (∃ g, e = .returned (.tuple #[.slice (some ⟨g, 0, none⟩) vars vars, .bool true]) ∧ RowB w' g ((List.range vars).map (witF S f f))) ∧ Below w.heap.size w w') := by
  obtain ⟨nv, pb, h⟩ := h
  obtain ⟨w1, hw1⟩ : ∃ W, w.alloc (.cells #[.int .i64 (f : Int)] 3) = W := ⟨_, rfl⟩
  have hB : Below w.heap.size w w1 := by rw [← hw1]; exact below_new _ _
  have h1 := h.below hB
  have hp : PtAt w1 (.pointer (some ⟨b, 0, none⟩)) S.length := .inr ⟨B, b, vars, budget, nv, pb, S, rfl, h1, rfl⟩
  have hc := phas_any w1 _ _ _ [(f : Int)] hp (ints_one w f w1 hw1) (by simp)
  have ht : hasB S.length [(f : Int)] = true := by rw [has_one]; simp; omega
  rw [ht] at hc
  obtain ⟨y0, y1, y2, y3⟩ := h1.box.ats
  have hvars := h.hv
  have hlen := h.hlen
  have hbud := h.hbud
  have hmk := run_make_row' (P := Try.prog) 28 4 (.bool false) 1 Try.underlying28 infoB rfl .i64 .i64 vars (by omega) (by omega)
  obtain ⟨w3, hw3⟩ : ∃ W, w1.alloc (.cells (madeCells #[.bool false] vars) 4) = W := ⟨_, rfl⟩
  have hr3 : RowB w3 w1.heap.size (witR S f vars f) := by
    unfold RowB
    rw [wit_start h.good hf, ← hw3, heap_alloc_new]
    have : madeCells #[Value.bool false] vars = (List.map Value.bool (List.replicate vars false)).toArray := by
      have h := toList_madeCells_one (.bool false) vars
      rw [List.map_replicate, ← h]
    rw [this]
  have hb3 : Below w1.heap.size w1 w3 := by rw [← hw3]; exact below_new _ _
  have s3 : w3.heap.size = w1.heap.size + 1 := by rw [← hw3]; simp
  have h0b : ((f : Int) == 0) = false := by simp; omega
  have HC := Lib.hid hc
  have HB := Lib.hid hB
  have HB3 := Lib.hid hb3
  have HS := Lib.hid h1
  have HF := Lib.hid hf
  have HF0 := Lib.hid h0
  have HR3 := Lib.hid hr3
  have HW3 := Lib.hid hw3
  have S3 := Lib.hid s3
  clear hc h h1 hp hB ht hf hb3 hr3 hw3 s3 h0
  go_enter Try.func21, Try.ntmps21
  go_wp2_with fail
  refine HC.out.mono ?_
  rintro e w2 ⟨rfl, hw2⟩
  subst hw2
  clear hw1
  go_wp2_with fail
  rw [HW3.out]
  go_loopw [1] (fun fi wr => ∃ k : Nat, fi = .int .i64 (k : Int) ∧ WitAt S f k ∧ Below w2.heap.size w2 wr ∧ RowB wr w2.heap.size (witR S f vars k)) (fun fi _ => intV fi)
  case atStart => exact ⟨f, rfl, WitAt.start HF0.out HF.out, HB3.out, HR3.out⟩
  case round =>
    obtain ⟨k, rfl, hwit, hb, hrow⟩ := hrel
    have hk := hwit.2.1
    have hk0 := hwit.1
    have HWI := Lib.hid hwit
    have HK := Lib.hid hk
    have HBW := Lib.hid hb
    have HRW := Lib.hid hrow
    by_cases h2 : k < 2
    · obtain rfl : k = 1 := by omega
      have HKD : Hid (RowB wr w2.heap.size ((List.range vars).map (witF S f f))) := Lib.hid (by
        rw [wit_end HS.out.good] at hrow
        exact hrow)
      clear hk hb hwit hrow hk0
      go_wp2_with fail
      refine bodyPost_ret (v := .tuple #[.slice (some ⟨w2.heap.size, 0, none⟩) vars vars, .bool true]) (by simp [results, Try.results21, go_sem]) rfl ⟨⟨_, rfl, HKD.out⟩, HB.out.trans (HBW.out.mono HB.out.size)⟩
    · obtain ⟨t, lo, hi, hnd⟩ := at_of hk
      obtain ⟨ht, hlv, hlo, hhi, _, _⟩ := HS.out.good.node k t lo hi (by omega) hnd
      obtain ⟨g, cap, hnv, q0, q1, q2⟩ := row_at (HS.out.below hb).row hnd
      have z2 := (HS.out.below hb).box.ats.2.2.1
      rw [hnv] at z2
      have HN := Lib.hid hnd
      obtain ⟨wa, hwa⟩ : ∃ W, wr.alloc (.cells #[.int .i64 (t : Int), .int .i64 (lo : Int), .int .i64 (hi : Int)] 59) = W := ⟨_, rfl⟩
      have hba : Below wr.heap.size wr wa := by rw [← hwa]; exact below_new wr _
      have HB2 : Hid (Below w2.heap.size w2 wa) := Lib.hid (hb.trans (hba.mono hb.size))
      have hlt : w2.heap.size < wr.heap.size := block_lt hrow
      have hrowa : RowB wa w2.heap.size (witR S f vars k) := by unfold RowB; rw [hba.block _ hlt]; exact hrow
      have hlen2 : (witR S f vars k).length = vars := by unfold witR; simp
      obtain ⟨x, qa, qf⟩ : ∃ x, wa.cell? ⟨w2.heap.size, t, none⟩ = some (.bool x) ∧ wa.frozen? ⟨w2.heap.size, t, none⟩ = false := ⟨_, hrowa.at (i := t) (by rw [hlen2]; exact ht)⟩
      have HRA := Lib.hid hrowa
      have hdn := HN.out
      by_cases hl0 : lo = 0
      · subst hl0
        have hst := wit_high (vars := vars) HS.out.good (by omega) hnd hwit
        have HST := Lib.hid hst
        have HE : Hid (Below w2.heap.size w2 (wa.setCell ⟨w2.heap.size, t, none⟩ (.bool true)) ∧ RowB (wa.setCell ⟨w2.heap.size, t, none⟩ (.bool true)) w2.heap.size (witR S f vars hi)) := Lib.hid (by
          refine ⟨HB2.out.setCell (by show _ ≤ w2.heap.size; omega) _, ?_⟩
          rw [hst.2]; exact hrowa.set t true)
        simp only [Int.natCast_zero] at q1 hwa
        clear hk hb hwit hrow hnv hnd hdn hba hrowa hst hlen2
        subst hwa
        rw [World.setCell_alloc_past (hn := hlt)] at HE
        go_wp2_with fail
        go_roundw
        case rel => exact ⟨hi, rfl, HST.out.1, HE.out.1, HE.out.2⟩
        case measure => simp [intV]; omega
      · have hst := wit_low (vars := vars) HS.out.good (by omega) hnd hl0 hwit
        have hl0b : ((lo : Int) == 0) = false := by simp; omega
        have HST : Hid (WitAt S f lo ∧ RowB wa w2.heap.size (witR S f vars lo)) := Lib.hid ⟨hst.1, by rw [hst.2]; exact hrowa⟩
        clear hk hb hwit hrow hnv hnd hdn hba hrowa hst hlen2
        subst hwa
        go_wp2_with fail
        go_roundw
        case rel => exact ⟨lo, rfl, HST.out.1, HB2.out, HST.out.2⟩
        case measure => simp [intV]; omega
end Go.Proofs.Ytfohjlepknnleaa.Bd
