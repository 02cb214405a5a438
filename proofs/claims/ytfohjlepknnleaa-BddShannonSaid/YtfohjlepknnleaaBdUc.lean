/- And's and Or's own functions; the first number that is not 0. Conditions: none. What comes first of two functions: the greater variable, then the lesser number. Conditions: none. And and Or of functions that there are not. Conditions: at most 1000000 functions. -/
import Derived.Test.YtfohjlepknnleaaBdMb
import Derived.Test.YtfohjlepknnleaaBdX
import Derived.Sort.Grow
import Derived.IntWalk
namespace Go.Proofs.Ytfohjlepknnleaa.Bd
open Go.ChangeShapes Go.WideShapes Go.ChangeAt Go.RowKit
set_option linter.unusedVariables false
set_option linter.unusedSimpArgs false

set_option maxRecDepth 100000 in
set_option maxHeartbeats 1600000 in
theorem and1_any (w : World) (f g : Int) :
    Calls Try.prog 39 #[.int .i64 f, .int .i64 g] w (fun e w' => e = .returned (.tuple #[.int .i64 f, .int .i64 g, .int .i64 0]) ∧ w' = w) := by
  go_enter Try.func39, Try.ntmps39
  go_wp2_with fail
  refine bodyPost_ret (v := .tuple #[.int .i64 f, .int .i64 g, .int .i64 0]) (by simp [results, Try.results39, go_sem]) rfl ⟨rfl, rfl⟩

set_option maxRecDepth 100000 in
set_option maxHeartbeats 1600000 in
theorem or1_any (w : World) (f g : Int) :
    Calls Try.prog 40 #[.int .i64 f, .int .i64 g] w (fun e w' => e = .returned (.tuple #[.int .i64 f, .int .i64 1, .int .i64 g]) ∧ w' = w) := by
  go_enter Try.func40, Try.ntmps40
  go_wp2_with fail
  refine bodyPost_ret (v := .tuple #[.int .i64 f, .int .i64 1, .int .i64 g]) (by simp [results, Try.results40, go_sem]) rfl ⟨rfl, rfl⟩

set_option maxRecDepth 100000 in
set_option maxHeartbeats 1600000 in
/-- Of two numbers the first that is not 0. -/
theorem cmpOr_any (w : World) (b : Nat) (x y : Int) (h0 : w.cell? ⟨b, 0, none⟩ = some (.int .i64 x)) (h1 : w.cell? ⟨b, 1, none⟩ = some (.int .i64 y)) :
    Calls Try.prog 62 #[.slice (some ⟨b, 0, none⟩) 2 2] w (fun e w' => e = .returned (.int .i64 (if x ≠ 0 then x else y)) ∧ w' = w) := by
  obtain ⟨r, hr⟩ : ∃ r, (if x ≠ 0 then x else y) = r := ⟨_, rfl⟩
  rw [hr]
  have HRR := Lib.hid hr
  clear hr
  go_enter Try.func62, Try.ntmps62
  go_wp2_with fail
  go_loopw [8] (fun vi wr => ∃ k : Nat, k ≤ 2 ∧ vi = .int .i64 (k : Int) ∧ w = wr ∧ (1 ≤ k → x = 0) ∧ (2 ≤ k → y = 0)) (fun vi _ => 2 - intV vi)
  case atStart => exact ⟨0, by omega, rfl, rfl, fun h => by omega, fun h => by omega⟩
  case round =>
    obtain ⟨k, hk, rfl, hw, hx, hy⟩ := hrel
    subst hw
    have HX := Lib.hid hx
    have HY := Lib.hid hy
    clear hx hy
    obtain rfl | rfl | rfl : k = 0 ∨ k = 1 ∨ k = 2 := by omega
    · by_cases c : x = 0
      · subst c
        go_wp2_with fail
        go_roundw
        case rel => exact ⟨1, by omega, rfl, by simp⟩
        case measure => simp [intV]
      · have hd : (x == 0) = false := by simp [c]
        have HR : Hid (r = x) := Lib.hid (by rw [← HRR.out]; exact if_pos c)
        go_wp2_with fail
        refine bodyPost_ret (v := .int .i64 x) (by simp [results, Try.results62, go_sem]) rfl ⟨by rw [HR.out], rfl⟩
    · have HR : Hid (r = y) := Lib.hid (by rw [← HRR.out]; exact if_neg (fun h => h (HX.out (by omega))))
      by_cases c : y = 0
      · subst c
        go_wp2_with fail
        go_roundw
        case rel => exact ⟨2, by omega, rfl, by first | trivial | (simp; exact HX.out (by omega)) | exact ⟨trivial, fun _ => HX.out (by omega), fun _ => trivial⟩⟩
        case measure => simp [intV]
      · have hd : (y == 0) = false := by simp [c]
        go_wp2_with fail
        refine bodyPost_ret (v := .int .i64 y) (by simp [results, Try.results62, go_sem]) rfl ⟨by rw [HR.out], rfl⟩
    · have HR : Hid (r = 0) := Lib.hid (by rw [← HRR.out, HX.out (by omega), HY.out (by omega)]; rfl)
      go_wp2_with fail
      refine bodyPost_ret (v := .int .i64 0) (by simp [results, Try.results62, go_sem]) rfl ⟨by rw [HR.out], rfl⟩
end Go.Proofs.Ytfohjlepknnleaa.Bd

namespace Go.Proofs.Ytfohjlepknnleaa.Bd
open Go.ChangeShapes Go.WideShapes Go.ChangeAt Go.RowKit
set_option linter.unusedVariables false
set_option linter.unusedSimpArgs false

/-- Below 0: the one comes ahead of the other. -/
def cmpU (S : List Nd) (x y : Nat) : Int := if (tst S y : Int) - (tst S x : Int) ≠ 0 then (tst S y : Int) - (tst S x : Int) else (x : Int) - (y : Int)
theorem two_new (w : World) (x y : Value) (T : TypeId) (w1 : World) (h : w.alloc (.cells #[x, y] T) = w1) :
    w1.cell? ⟨w.heap.size, 0, none⟩ = some x ∧ w1.cell? ⟨w.heap.size, 1, none⟩ = some y := by
  subst h
  have h1 := heap_alloc_new w (.cells #[x, y] T)
  constructor <;> (unfold World.cell?; rw [h1]; rfl)

set_option maxRecDepth 100000 in
set_option maxHeartbeats 1600000 in
theorem upwards1_any (W : World) (B b vars budget : Nat) (nv : Value) (pb : Nat) (S : List Nd) (h : StV B W b vars budget nv pb S) (E x y : Nat) (hE : W.cell? ⟨E, 0, none⟩ = some (.pointer (some ⟨b, 0, none⟩))) (hx : x < S.length) (hy : y < S.length) :
    Calls Try.prog 61 #[.int .i64 (x : Int), .int .i64 (y : Int), .pointer (some ⟨E, 0, none⟩)] W (fun e w' => e = .returned (.int .i64 (cmpU S x y)) ∧ ∃ q os', w' = Go.Sort.grow (W.drewN q) os') := by
  obtain ⟨tx, lox, hix, hnx⟩ := at_of hx
  obtain ⟨ty, loy, hiy, hny⟩ := at_of hy
  have htx := tst_le h.good hx
  have hty := tst_le h.good hy
  rw [tst_at hnx] at htx
  rw [tst_at hny] at hty
  have hv := h.hv
  have hlen := h.hlen
  have hbud := h.hbud
  obtain ⟨g, cap, hnv, qx, -, -⟩ := row_at h.row hnx
  obtain ⟨g', cap', hnv', qy, -, -⟩ := row_at h.row hny
  rw [hnv] at hnv'
  injection hnv' with e1 e2 e3
  injection e1 with e1
  injection e1 with e1
  subst e1
  have z2 := h.box.ats.2.2.1
  rw [hnv] at z2
  obtain ⟨n, hn⟩ : ∃ n, S.length = n := ⟨_, rfl⟩
  rw [hn] at z2 hlen hx hy
  have hc : cmpU S x y = if (ty : Int) - (tx : Int) ≠ 0 then (ty : Int) - (tx : Int) else (x : Int) - (y : Int) := by unfold cmpU; rw [tst_at hnx, tst_at hny]
  obtain ⟨r, hr⟩ : ∃ r, cmpU S x y = r := ⟨_, rfl⟩
  rw [hr] at hc ⊢
  obtain ⟨W2, hW2⟩ : ∃ V, (W.alloc (.cells #[.int .i64 (IntKind.i64.wrap ((ty : Int) - (tx : Int))), .int .i64 (IntKind.i64.wrap ((x : Int) - (y : Int)))] 3)).drew = V := ⟨_, rfl⟩
  have HOR : Hid (Calls Try.prog 62 #[.slice (some ⟨W.heap.size, 0, none⟩) 2 2] W2 (fun e w' => e = .returned (.int .i64 r) ∧ w' = W2)) := Lib.hid (by
    have h := cmpOr_any W2 W.heap.size ((ty : Int) - (tx : Int)) ((x : Int) - (y : Int)) (by
      rw [← hW2, IntWalk.i64_in _ ⟨by omega, by omega⟩, IntWalk.i64_in _ ⟨by omega, by omega⟩]
      exact (two_new _ _ _ _ _ rfl).1) (by
      rw [← hW2, IntWalk.i64_in _ ⟨by omega, by omega⟩, IntWalk.i64_in _ ⟨by omega, by omega⟩]
      exact (two_new _ _ _ _ _ rfl).2)
    rw [← hc] at h
    exact h)
  have HGR : Hid (∃ q os', W2 = Go.Sort.grow (W.drewN q) os') := Lib.hid ⟨1, _, by rw [← hW2, Go.Sort.alloc_eq_grow]; rfl⟩
  have HW2 := Lib.hid hW2
  have HP : Hid (∀ V, V = W2 → V.cell? ⟨E, 0, none⟩ = some (.pointer (some ⟨b, 0, none⟩)) ∧ V.cell? ⟨b, 2, none⟩ = some (.slice (some ⟨g, 0, none⟩) n cap) ∧ V.cell? ⟨g, y * 3, none⟩ = some (.int .i64 (ty : Int)) ∧ V.cell? ⟨g, x * 3, none⟩ = some (.int .i64 (tx : Int))) := Lib.hid (fun V hV => by
    have hb : Below W.heap.size W V := by rw [hV, ← hW2]; exact (below_new W _).drew
    refine ⟨?_, ?_, ?_, ?_⟩
    · rw [World.cell?_of_block (hb.block _ (block_lt_of_cell hE))]; exact hE
    · rw [World.cell?_of_block (hb.block _ (block_lt_of_cell z2))]; exact z2
    · rw [World.cell?_of_block (hb.block _ (block_lt_of_cell qy))]; exact qy
    · rw [World.cell?_of_block (hb.block _ (block_lt_of_cell qx))]; exact qx)
  clear hc hr hnv hnx hny h hn hW2
  go_enter Try.func61, Try.ntmps61
  go_wp2_with fail
  go_region_held3 (fun V => V.cell? ⟨E, 0, none⟩ = some (.pointer (some ⟨b, 0, none⟩)) ∧ V.cell? ⟨b, 2, none⟩ = some (.slice (some ⟨g, 0, none⟩) n cap) ∧ V.cell? ⟨g, y * 3, none⟩ = some (.int .i64 (ty : Int)) ∧ V.cell? ⟨g, x * 3, none⟩ = some (.int .i64 (tx : Int)))
    (first | go_keep | exact ⟨hE, z2, qy, qx⟩ | exact p1)
    (first
      | (go_at_call 62; rw [HW2.out]; with_reducible refine HOR.out.mono ?_; rintro e V ⟨rfl, hV⟩; have HV := Lib.hid hV; have p1 := HP.out V hV; clear hV))
  all_goals
    go_wp2
    refine bodyPost_ret (v := .int .i64 r) (by simp [results, Try.results61, go_sem]) rfl ⟨rfl, by rw [HV.out]; exact HGR.out⟩
end Go.Proofs.Ytfohjlepknnleaa.Bd

namespace Go.Proofs.Ytfohjlepknnleaa.Bd
open Go.ChangeShapes Go.WideShapes Go.ChangeAt Go.RowKit
set_option linter.unusedVariables false
set_option linter.unusedSimpArgs false

set_option maxRecDepth 100000 in
set_option maxHeartbeats 1600000 in
theorem together_bad (w : World) (pt v : Value) (n : Nat) (l : List Int) (h : PtAt w pt n) (hv : IntsAt w v l) (hl : l.length ≤ 1000000) (hb : hasB n l = false) (x : Int) (f : Value) :
    Calls Try.prog 38 #[pt, v, .int .i64 x, f] w (fun e w' => e = .returned (.tuple #[.int .i64 0, .int .i64 1]) ∧ w' = w) := by
  have hc := phas_any w pt n v l h hv hl
  rw [hb] at hc
  have HC := Lib.hid hc
  clear hc h hb hv
  go_enter Try.func38, Try.ntmps38
  go_wp2_with fail
  refine HC.out.mono ?_
  rintro e w ⟨rfl, rfl⟩
  go_wp2_with fail
  refine bodyPost_ret (v := .tuple #[.int .i64 0, .int .i64 1]) (by simp [results, Try.results38, go_sem]) rfl ⟨rfl, rfl⟩

set_option maxRecDepth 100000 in
set_option maxHeartbeats 1600000 in
theorem and_bad (w : World) (pt v : Value) (n : Nat) (l : List Int) (h : PtAt w pt n) (hv : IntsAt w v l) (hl : l.length ≤ 1000000) (hb : hasB n l = false) :
    Calls Try.prog 18 #[pt, v] w (fun e w' => e = .returned (.tuple #[.int .i64 0, .int .i64 1]) ∧ w' = w) := by
  have HC := Lib.hid (together_bad w pt v n l h hv hl hb 1 (.func (.func 39) #[] #[]))
  clear h hv hb
  go_enter Try.func18, Try.ntmps18
  go_wp2_with fail
  refine HC.out.mono ?_
  rintro e w ⟨rfl, rfl⟩
  go_wp2_with fail
  refine bodyPost_ret (v := .tuple #[.int .i64 0, .int .i64 1]) (by simp [results, Try.results18, go_sem]) rfl ⟨rfl, rfl⟩

set_option maxRecDepth 100000 in
set_option maxHeartbeats 1600000 in
theorem or_bad (w : World) (pt v : Value) (n : Nat) (l : List Int) (h : PtAt w pt n) (hv : IntsAt w v l) (hl : l.length ≤ 1000000) (hb : hasB n l = false) :
    Calls Try.prog 19 #[pt, v] w (fun e w' => e = .returned (.tuple #[.int .i64 0, .int .i64 1]) ∧ w' = w) := by
  have HC := Lib.hid (together_bad w pt v n l h hv hl hb 0 (.func (.func 40) #[] #[]))
  clear h hv hb
  go_enter Try.func19, Try.ntmps19
  go_wp2_with fail
  refine HC.out.mono ?_
  rintro e w ⟨rfl, rfl⟩
  go_wp2_with fail
  refine bodyPost_ret (v := .tuple #[.int .i64 0, .int .i64 1]) (by simp [results, Try.results19, go_sem]) rfl ⟨rfl, rfl⟩
end Go.Proofs.Ytfohjlepknnleaa.Bd
