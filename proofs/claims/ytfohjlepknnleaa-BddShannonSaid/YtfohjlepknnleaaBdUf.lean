/- The layings of the sort at this program, by application of the compiled library. Conditions: none. Functions are put in their order, each once: what the library does to the row. Conditions: at most 1000000 functions. Functions are put in their order, each once. Conditions: at most 1000000 functions, all of which there are. -/
import Derived.Shelf.SlSortCmp.NoneTotal
import Derived.Ground.SlsfProg
import Derived.Test.YtfohjlepknnleaaProg
import Derived.Test.YtfohjlepknnleaaBdUc
import Derived.Test.YtfohjlepknnleaaBdSh
import Derived.Lib.OwnBridge
namespace Go.Proofs
open Go.Shelf
def Try.laysSort_ren : Go.Shelf.Ren := ⟨fun | 6 => 60 | 15 => 67 | 14 => 66 | 28 => 78 | 29 => 79 | 20 => 70 | 21 => 71 | 22 => 72 | 23 => 73 | 24 => 74 | 25 => 75 | 26 => 76 | 27 => 77 | 46 => 80 | 47 => 81 | 48 => 82 | 49 => 83 | 50 => 84 | 57 => 85 | n => n, fun | 22 => 78 | 24 => 3 | 25 => 64 | 3 => 3 | 39 => 55 | 0 => 0 | 53 => 112 | 55 => 115 | 4 => 4 | 46 => 120 | 45 => 119 | 50 => 89 | 5 => 5 | 9 => 9 | 66 => 127 | 70 => 131 | 76 => 133 | 77 => 94 | n => n, fun | n => n⟩
theorem Try.laysSort : Go.Proofs.SlLaysF.n6 Try.prog Try.laysSort_ren := {
  mixed := by kernel_rfl
  f6 := ⟨Try.f60.name, by decide, Try.func60.trans (congrArg some (by kernel_rfl))⟩
  f14 := ⟨Try.f66.name, by decide, Try.func66.trans (congrArg some (by kernel_rfl))⟩
  f15 := Try.func67.trans (congrArg some (by kernel_rfl))
  f20 := ⟨Try.f70.name, by decide, Try.func70.trans (congrArg some (by kernel_rfl))⟩
  f21 := ⟨Try.f71.name, by decide, Try.func71.trans (congrArg some (by kernel_rfl))⟩
  f22 := ⟨Try.f72.name, by decide, Try.func72.trans (congrArg some (by kernel_rfl))⟩
  f23 := ⟨Try.f73.name, by decide, Try.func73.trans (congrArg some (by kernel_rfl))⟩
  f24 := ⟨Try.f74.name, by decide, Try.func74.trans (congrArg some (by kernel_rfl))⟩
  f25 := ⟨Try.f75.name, by decide, Try.func75.trans (congrArg some (by kernel_rfl))⟩
  f26 := ⟨Try.f76.name, by decide, Try.func76.trans (congrArg some (by kernel_rfl))⟩
  f27 := ⟨Try.f77.name, by decide, Try.func77.trans (congrArg some (by kernel_rfl))⟩
  f28 := Try.func78.trans (congrArg some (by kernel_rfl))
  f29 := Try.func79.trans (congrArg some (by kernel_rfl))
  f46 := ⟨Try.f80.name, by decide, Try.func80.trans (congrArg some (by kernel_rfl))⟩
  f47 := Try.func81.trans (congrArg some (by kernel_rfl))
  f48 := Try.func82.trans (congrArg some (by kernel_rfl))
  f49 := ⟨Try.f83.name, by decide, Try.func83.trans (congrArg some (by kernel_rfl))⟩
  f50 := ⟨Try.f84.name, by decide, Try.func84.trans (congrArg some (by kernel_rfl))⟩
  f57 := ⟨Try.f85.name, by decide, Try.func85.trans (congrArg some (by kernel_rfl))⟩
  t0 := Try.underlying0
  a0 := Try.isAgg0
  z0 := Try.sizeOf0
  v0 := Try.zeroValue0
  t3 := Try.underlying3
  a3 := Try.isAgg3
  z3 := Try.sizeOf3
  v3 := Try.zeroValue3
  t4 := Try.underlying4
  a4 := Try.isAgg4
  z4 := Try.sizeOf4
  v4 := Try.zeroValue4
  t5 := Try.underlying5
  a5 := Try.isAgg5
  z5 := Try.sizeOf5
  v5 := Try.zeroValue5
  t9 := Try.underlying9
  a9 := Try.isAgg9
  z9 := Try.sizeOf9
  v9 := Try.zeroValue9
  t22 := Try.underlying78
  a22 := Try.isAgg78
  z22 := Try.sizeOf78
  v22 := Try.zeroValue78
  a24 := Try.isAgg3
  z24 := Try.sizeOf3
  t25 := Try.underlying64
  a25 := Try.isAgg64
  z25 := Try.sizeOf64
  v25 := Try.zeroValue64
  t39 := Try.underlying55
  a39 := Try.isAgg55
  z39 := Try.sizeOf55
  v39 := Try.zeroValue55
  t45 := Try.underlying119
  a45 := Try.isAgg119
  z45 := Try.sizeOf119
  v45 := Try.zeroValue119
  t46 := Try.underlying120
  a46 := Try.isAgg120
  z46 := Try.sizeOf120
  v46 := Try.zeroValue120
  t50 := Try.underlying89
  a50 := Try.isAgg89
  z50 := Try.sizeOf89
  v50 := Try.zeroValue89
  t53 := Try.underlying112
  a53 := Try.isAgg112
  z53 := Try.sizeOf112
  v53 := Try.zeroValue112
  t55 := Try.underlying115
  a55 := Try.isAgg115
  z55 := Try.sizeOf115
  v55 := Try.zeroValue115
  t66 := Try.underlying127
  a66 := Try.isAgg127
  z66 := Try.sizeOf127
  v66 := Try.zeroValue127
  t70 := Try.underlying131
  a70 := Try.isAgg131
  z70 := Try.sizeOf131
  v70 := Try.zeroValue131
  t76 := Try.underlying133
  a76 := Try.isAgg133
  z76 := Try.sizeOf133
  v76 := Try.zeroValue133
  t77 := Try.underlying94
  a77 := Try.isAgg94
  z77 := Try.sizeOf94
  v77 := Try.zeroValue94 }
end Go.Proofs

namespace Go.Proofs.Ytfohjlepknnleaa.Bd
open Go.ChangeShapes Go.WideShapes Go.ChangeAt Go.RowKit Go.Sort Go.Lib
set_option linter.unusedVariables false
set_option linter.unusedSimpArgs false

theorem cmpU_lt (S : List Nd) (x y : Nat) : cmpU S x y < 0 ↔ tst S y < tst S x ∨ (tst S x = tst S y ∧ x < y) := by
  unfold cmpU; split <;> omega
theorem mem_upTo (d : Array Int) : ∀ (m : Nat) (x : Int), x ∈ Lib.compactUpTo d m ↔ ∃ j, j < m ∧ d[j]! = x := by
  intro m
  induction m with
  | zero => intro x; simp [Lib.compactUpTo]
  | succ m ih =>
    intro x
    rw [Lib.compactUpTo_succ, List.mem_append, ih]
    constructor
    · rintro (⟨j, h1, h2⟩ | h)
      · exact ⟨j, by omega, h2⟩
      · split at h
        · simp at h; exact ⟨m, by omega, h.symm⟩
        · simp at h
    · rintro ⟨j, h1, h2⟩
      by_cases hj : j < m
      · exact .inl ⟨j, hj, h2⟩
      · obtain rfl : j = m := by omega
        by_cases hk : Lib.keeps d j = true
        · right; rw [if_pos hk]; simp [h2]
        · left
          by_cases h0 : j = 0
          · subst h0; exact absurd (Lib.keeps_lt_one d 0 (by omega)) hk
          · by_cases he : d[j]! = d[j - 1]!
            · exact ⟨j - 1, by omega, he.symm.trans h2⟩
            · exact absurd (Lib.keeps_pos he) hk
theorem mem_compact (zs : List Int) (x : Int) : x ∈ Lib.compact zs ↔ x ∈ zs := by
  unfold Lib.compact
  rw [mem_upTo]
  constructor
  · rintro ⟨j, h1, h2⟩
    rw [← h2, getElem!_pos _ j (by simpa using h1)]
    simp
  · intro h
    obtain ⟨j, h1, h2⟩ := List.mem_iff_getElem.1 h
    exact ⟨j, h1, by rw [getElem!_pos _ j (by simpa using h1)]; simpa using h2⟩
theorem grow_below {B : Nat} {w0 w : World} (h : Below B w0 w) (os : Array Obj) (hB : B ≤ w.heap.size) : Below B w0 (Go.Sort.grow w os) :=
  h.trans ⟨rfl, rfl, rfl, by show w.heap.size ≤ (w.heap ++ os).size; rw [Array.size_append]; omega, fun j hj => by show (w.heap ++ os)[j]? = _; rw [Array.getElem?_append_left (by omega)]⟩
/-- The row of numbers of functions. -/
def natV (l : List Nat) : List Value := l.map fun (x : Nat) => Value.int .i64 (x : Int)
def natZ (l : List Nat) : List Int := l.map fun (x : Nat) => (x : Int)
theorem natV_z (l : List Nat) : natV l = (natZ l).map (Value.int .i64) := by unfold natV natZ; rw [List.map_map]; rfl
theorem clone_any (w : World) (v : Value) (l : List Nat) (hv : IntsAt w v (natZ l)) (hl : l.length ≤ 1000000) :
    Calls Try.prog 59 #[v] w (fun e w' => ∃ v', e = .returned v' ∧ w'.ownsRow w.heap.size 3 1 v' l.length (natV l) ∧ Below w.heap.size w w') := by
  obtain ⟨A, c, rfl, hc⟩ := hv
  have hlen : (natZ l).length = l.length := by simp [natZ]
  rw [hlen]
  by_cases h0 : l = []
  · subst h0
    cases A with
    | none =>
      refine (Try.slices_Clone_int_nil 0 c w).mono ?_
      rintro e w' ⟨rfl, rfl⟩
      exact ⟨_, rfl, World.ownsRow_nil _ _ _ _, Below.refl _ _⟩
    | some a =>
      refine (Try.slices_Clone_int_zero a c w).mono ?_
      rintro e w' ⟨v', rfl, h1, -, h2⟩
      exact ⟨_, rfl, h1, h2⟩
  · have hp := List.length_pos_iff.2 h0
    obtain ⟨z0, hz0⟩ : ∃ z, (natZ l)[0]? = some z := ⟨_, List.getElem?_eq_getElem (by omega)⟩
    obtain ⟨g, o, rfl, -⟩ := hc 0 z0 hz0
    have hcells : ∀ j, j < (natZ l).length → w.cell? ⟨g, o + j, none⟩ = some (.int .i64 ((natZ l).getD j 0)) := fun j hj => by
      obtain ⟨g', o', e, h⟩ := hc j _ (List.getElem?_eq_getElem hj)
      injection e with e
      injection e with e1 e2
      subst e1 e2
      rw [h, List.getD_eq_getElem?_getD, List.getElem?_eq_getElem hj]; rfl
    refine (Try.slices_Clone_int g o l.length c (natZ l) w (by omega) (by omega) hcells).mono ?_
    rintro e w' ⟨v', rfl, h1, -, h2⟩
    refine ⟨_, rfl, ?_, h2⟩
    rw [natV_z]
    rwa [List.take_of_length_le (by omega)] at h1
/-- The order, among functions that there are. -/
def cmpF (S : List Nd) (m : Nat) (x y : Fin (m + 1)) : Int := cmpU S x.val y.val
def encF (m : Nat) (x : Fin (m + 1)) : Value := .int .i64 (x.val : Int)
theorem cmpF_lt (S : List Nd) (m : Nat) (x y : Fin (m + 1)) : ltOf (cmpF S m) x y = true ↔ tst S y.val < tst S x.val ∨ (tst S x.val = tst S y.val ∧ x.val < y.val) := by
  unfold ltOf cmpF; rw [decide_eq_true_iff, cmpU_lt]
theorem cmpF_not (S : List Nd) (m : Nat) (x y : Fin (m + 1)) : ltOf (cmpF S m) x y = false ↔ ¬ (tst S y.val < tst S x.val ∨ (tst S x.val = tst S y.val ∧ x.val < y.val)) := by
  rw [← cmpF_lt, Bool.not_eq_true]
theorem cmpF_swo (S : List Nd) (m : Nat) : SWO (ltOf (cmpF S m)) where
  irrefl x := by rw [cmpF_not]; omega
  trans x y z h1 h2 := by rw [cmpF_lt] at *; omega
  ntrans x y z h1 h2 := by rw [cmpF_not] at *; omega
def finL (m : Nat) (l : List Nat) : List (Fin (m + 1)) := l.map fun x => Fin.ofNat (m + 1) x
theorem finL_enc (m : Nat) (l : List Nat) (h : ∀ x ∈ l, x < m + 1) : (finL m l).map (encF m) = natV l := by
  unfold finL natV
  rw [List.map_map]
  apply List.map_congr_left
  intro x hx
  simp only [Function.comp, encF, Fin.ofNat]
  rw [Nat.mod_eq_of_lt (h x hx)]
theorem sort_any (w : World) (base : Nat) (v : Value) (l : List Nat) (S : List Nd) (E : Nat) (hr : w.ownsRow base 3 1 v l.length (natV l)) (hb : base ≤ w.heap.size) (hl : l.length ≤ 1000000) (hS : ∀ x ∈ l, x < S.length) (h0 : 0 < S.length)
    (hc : ∀ W x y, Below base w W → x < S.length → y < S.length → Calls Try.prog 61 #[.int .i64 (x : Int), .int .i64 (y : Int), .pointer (some ⟨E, 0, none⟩)] W (fun e w' => e = .returned (.int .i64 (cmpU S x y)) ∧ ∃ q os', w' = Go.Sort.grow (W.drewN q) os')) :
    Calls Try.prog 60 #[v, .func (.func 61) #[] #[.pointer (some ⟨E, 0, none⟩)]] w (fun e w' => e = .returned (.tuple #[]) ∧ ∃ l' : List Nat, l'.length = l.length ∧ (∀ x, x ∈ l' ↔ x ∈ l) ∧ w'.ownsRow base 3 1 v l.length (natV l') ∧ Below base w w') := by
  by_cases hv : v = .slice none 0 0
  · subst hv
    have e0 : l = [] := by
      rcases hr.2 with ⟨-, h⟩ | ⟨g, cap, cur, e, _⟩
      · exact List.length_eq_zero_iff.1 h
      · cases e
    subst e0
    refine (AnyF.slices_SortFunc_none (P := Try.prog) (ρ := Try.laysSort_ren) { Try.laysSort with } none 0 _ w).mono ?_
    rintro e w' ⟨rfl, rfl⟩
    exact ⟨rfl, [], rfl, fun x => Iff.rfl, hr, Below.refl _ _⟩
  · obtain ⟨m, hm⟩ : ∃ m, S.length = m + 1 := ⟨S.length - 1, by omega⟩
    rw [hm] at hS hc
    rw [← finL_enc m l hS] at hr
    obtain ⟨g, cap, rfl, hg, hlt, hn, hcap, hzl, hH⟩ := holds_of_ownsRow hr hv
    have hsize : (finL m l).toArray.size = l.length := by simp [finL]
    have hlay : CmpLays1 Try.prog 61 #[.pointer (some ⟨E, 0, none⟩)] (encF m) (cmpF S m) g 0 (finL m l).toArray.size w := fun k os dk hd x y => by
      have hB : Below base w (sortWorld (encF m) w g 0 k dk os) := by
        unfold sortWorld
        exact grow_below (below_putRow (Below.refl _ _) hg) os (by rw [size_putRow]; exact hb)
      exact hc _ x.val y.val hB x.isLt y.isLt
    have hs := Any.slices_SortFunc_total (P := Try.prog) (ρ := Try.laysSort_ren) Try.laysSort (encF m) (fun _ => rfl) (cmpF S m) (cmpF_swo S m) 61 #[.pointer (some ⟨E, 0, none⟩)] g 0 cap (finL m l).toArray w (enters_of Try.func61 (by kernel_rfl) rfl) hlay hH hlt (by rw [hsize]; omega) (fun x y h1 h2 => by rw [cmpF_not] at h1 h2; exact Fin.ext (by omega))
    rw [hsize, show (finL m l).toArray.toList = finL m l from rfl] at hs
    refine hs.mono ?_
    rintro e w' ⟨rfl, k, os, rfl⟩
    obtain ⟨ys, hys⟩ : ∃ ys, ((finL m l).mergeSort fun x y => !(ltOf (cmpF S m)) y x) = ys := ⟨_, rfl⟩
    have hperm : ys.Perm (finL m l) := by rw [← hys]; exact List.mergeSort_perm _ _
    have hyl : ys.length = l.length := by rw [hperm.length_eq]; simp [finL]
    rw [hys]
    refine ⟨rfl, ys.map (·.val), by simp [hyl], fun x => ?_, ?_, ?_⟩
    · rw [List.mem_map]
      constructor
      · rintro ⟨y, hy, rfl⟩
        obtain ⟨z, hz, rfl⟩ := List.mem_map.1 (hperm.mem_iff.1 hy)
        show (z % (m + 1)) ∈ l
        rw [Nat.mod_eq_of_lt (hS z hz)]; exact hz
      · intro hx
        exact ⟨Fin.ofNat (m + 1) x, hperm.mem_iff.2 (List.mem_map.2 ⟨x, hx, rfl⟩), Nat.mod_eq_of_lt (hS x hx)⟩
    · unfold sortWorld
      have h1 := ownsRow_putRow (q := k) (k := l.length) (ys := ys) hr hyl (Nat.le_refl _)
      rw [List.take_of_length_le (by omega)] at h1
      have e : natV (ys.map (·.val)) = ys.map (encF m) := by unfold natV; rw [List.map_map]; rfl
      rw [e]
      exact own_below h1 (grow_below (Below.refl _ _) os (Nat.le_refl _))
    · unfold sortWorld
      exact grow_below (below_putRow (Below.refl _ _) hg) os (by rw [size_putRow]; exact hb)
theorem comp_any (w : World) (base : Nat) (v : Value) (l : List Nat) (hr : w.ownsRow base 3 1 v l.length (natV l)) (hl : l.length ≤ 1000000) :
    Calls Try.prog 63 #[v] w (fun e w' => ∃ (v' : Value) (l' : List Nat), e = .returned v' ∧ l'.length ≤ l.length ∧ (∀ x, x ∈ l' ↔ x ∈ l) ∧ w'.ownsRow base 3 1 v' l'.length (natV l') ∧ Below base w w') := by
  by_cases hv : v = .slice none 0 0
  · subst hv
    have e0 : l = [] := by
      rcases hr.2 with ⟨-, h⟩ | ⟨g, cap, cur, e, _⟩
      · exact List.length_eq_zero_iff.1 h
      · cases e
    subst e0
    refine (Try.slices_Compact_int_empty none 0 w).mono ?_
    rintro e w' ⟨rfl, rfl⟩
    exact ⟨_, [], rfl, Nat.le_refl _, fun x => Iff.rfl, hr, Below.refl _ _⟩
  · rw [natV_z] at hr
    obtain ⟨g, cap, rfl, hg, hlt, hn, hcap, hzl, hH⟩ := holds_of_ownsRow hr hv
    have hc := Try.slices_Compact_int g 0 cap (natZ l) w hH (by omega) (by omega)
    rw [hzl] at hc
    refine hc.mono ?_
    rintro e w' ⟨rfl, q, rfl⟩
    have hle := compact_length_le (natZ l)
    have hz : natZ ((Lib.compact (natZ l)).map Int.toNat) = Lib.compact (natZ l) := by
      unfold natZ
      rw [List.map_map]
      conv => rhs; rw [← List.map_id (Lib.compact (List.map (fun (x : Nat) => (x : Int)) l))]
      apply List.map_congr_left
      intro x hx
      obtain ⟨y, -, rfl⟩ := List.mem_map.1 ((mem_compact _ x).1 hx)
      rfl
    refine ⟨_, (Lib.compact (natZ l)).map Int.toNat, rfl, by rw [List.length_map]; omega, fun x => ?_, ?_, below_putRow (Below.refl _ _) hg⟩
    · rw [List.mem_map]
      constructor
      · rintro ⟨y, hy, rfl⟩
        obtain ⟨z, hz, rfl⟩ := List.mem_map.1 ((mem_compact _ y).1 hy)
        exact hz
      · intro hx
        exact ⟨(x : Int), (mem_compact _ _).2 (List.mem_map.2 ⟨x, hx, rfl⟩), rfl⟩
    · have h1 := ownsRow_putRow (q := q) (k := (Lib.compact (natZ l)).length) (ys := Lib.compact (natZ l) ++ List.replicate (l.length - (Lib.compact (natZ l)).length) 0) hr (by simp; omega) (by omega)
      rw [List.take_left'  rfl] at h1
      rw [natV_z, hz, List.length_map]
      exact h1
end Go.Proofs.Ytfohjlepknnleaa.Bd

namespace Go.Proofs.Ytfohjlepknnleaa.Bd
open Go.ChangeShapes Go.WideShapes Go.ChangeAt Go.RowKit Go.Sort Go.Lib
set_option linter.unusedVariables false
set_option linter.unusedSimpArgs false

theorem ints_below {w w' : World} {v : Value} {l : List Int} (h : IntsAt w v l) (hb : Below w.heap.size w w') : IntsAt w' v l := by
  obtain ⟨A, c, rfl, h⟩ := h
  refine ⟨A, c, rfl, fun i x hi => ?_⟩
  obtain ⟨g, o, e, h1⟩ := h i x hi
  exact ⟨g, o, e, (World.cell?_of_block (hb.block _ (block_lt_of_cell h1))).trans h1⟩
theorem own_low {w : World} {b b' : Nat} {e : TypeId} {s : Nat} {v : Value} {n : Nat} {xs : List Value} (h : w.ownsRow b e s v n xs) (hb : b' ≤ b) : w.ownsRow b' e s v n xs := by
  obtain ⟨h1, h2 | ⟨g, cap, cur, e1, hg, h3⟩⟩ := h
  · exact ⟨h1, .inl h2⟩
  · exact ⟨h1, .inr ⟨g, cap, cur, e1, Nat.le_trans hb hg, h3⟩⟩
abbrev UpPost (l : List Nat) (w : World) (e : Ending) (w' : World) : Prop :=
  ∃ (v' : Value) (l' : List Nat), e = .returned v' ∧ l'.length ≤ l.length ∧ (∀ x, x ∈ l' ↔ x ∈ l) ∧ w'.ownsRow w.heap.size 3 1 v' l'.length (natV l') ∧ Below w.heap.size w w'
set_option maxRecDepth 100000 in
set_option maxHeartbeats 1600000 in
theorem upwards_any (w : World) (B b vars budget : Nat) (nv : Value) (pb : Nat) (S : List Nd) (h : StV B w b vars budget nv pb S) (v : Value) (l : List Nat) (hv : IntsAt w v (natZ l)) (hl : l.length ≤ 1000000) (hS : ∀ x ∈ l, x < S.length) :
    Calls Try.prog 52 #[.pointer (some ⟨b, 0, none⟩), v] w (UpPost l w) := by
  obtain ⟨w1, hw1⟩ : ∃ W, w.alloc (.cells #[.pointer (some ⟨b, 0, none⟩)] 24) = W := ⟨_, rfl⟩
  obtain ⟨-, c1, -, hb1, s1⟩ := one_new _ _ _ _ hw1
  have HCL := Lib.hid (clone_any w1 v l (ints_below hv hb1) hl)
  have HCM : Hid (∀ W x y, Below w1.heap.size w1 W → x < S.length → y < S.length → Calls Try.prog 61 #[.int .i64 (x : Int), .int .i64 (y : Int), .pointer (some ⟨w.heap.size, 0, none⟩)] W (fun e w' => e = .returned (.int .i64 (cmpU S x y)) ∧ ∃ q os', w' = Go.Sort.grow (W.drewN q) os')) := Lib.hid (fun W x y hW hx hy =>
    upwards1_any W B b vars budget nv pb S (h.below (hb1.trans (hW.mono hb1.size))) _ x y ((World.cell?_of_block (hW.block _ (by show w.heap.size < _; omega))).trans c1) hx hy)
  have H0 : Hid (0 < S.length) := Lib.hid (by have := h.good.two; omega)
  have HS := Lib.hid hS
  have HB1 := Lib.hid hb1
  have HW1 := Lib.hid hw1
  have HS1 := Lib.hid s1
  clear hw1 c1 hb1 s1 h hS hv
  go_enter Try.func52, Try.ntmps52
  go_wp2_with fail
  rw [HW1.out]
  refine HCL.out.mono ?_
  rintro e w2 ⟨v2, rfl, ho2, hb2⟩
  have HA2 := Lib.hid hb2
  have HSO := Lib.hid (sort_any w2 w1.heap.size v2 l S w.heap.size ho2 hb2.size hl HS.out H0.out (fun W x y hW hx hy => HCM.out W x y (hb2.trans hW) hx hy))
  clear ho2 hb2
  go_wp2_with fail
  refine HSO.out.mono ?_
  rintro e w3 ⟨rfl, l3, hl3, hm3, ho3, hb3⟩
  have HA3 := Lib.hid hb3
  have HM3 := Lib.hid hm3
  have HL3 := Lib.hid hl3
  rw [← hl3] at ho3
  have HCO := Lib.hid (comp_any w3 w1.heap.size v2 l3 ho3 (by omega))
  clear hl3 hm3 ho3 hb3
  go_wp2_with fail
  refine HCO.out.mono ?_
  rintro e w4 ⟨v4, l4, rfl, hl4, hm4, ho4, hb4⟩
  have HP : Hid (UpPost l w (.returned v4) w4) := Lib.hid ⟨v4, l4, rfl, by have := HL3.out; omega, fun x => (hm4 x).trans (HM3.out x), own_low ho4 (by have := HS1.out; omega), HB1.out.trans ((HA2.out.trans (HA3.out.trans hb4)).mono HB1.out.size)⟩
  clear hl4 hm4 ho4 hb4
  go_wp2_with fail
  refine bodyPost_ret (v := v4) (by simp [results, Try.results52, go_sem]) rfl HP.out
end Go.Proofs.Ytfohjlepknnleaa.Bd
