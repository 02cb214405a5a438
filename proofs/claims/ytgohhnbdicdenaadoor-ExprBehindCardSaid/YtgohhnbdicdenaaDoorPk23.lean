/- Contract of the function signs: ten maps. Conditions: none. -/
import Derived.Test.YtgohhnbdicdenaaDoorPk22
import Derived.Maps.Own
namespace Go.Proofs.YtgohhnbdicdenaaDoor.Ex
open Go.ChangeShapes Go.WideShapes Go.ChangeAt Go.RowKit Go.ChangeMaps
open Go.Proofs.YtgohhnbdicdenaaDoor.Tr (str ret_bool ret_int Bytes Nd)
set_option linter.unusedVariables false
set_option linter.unusedSimpArgs false

set_option maxRecDepth 100000 in
set_option maxHeartbeats 4000000 in
theorem signs_any (w : World) : Calls Tryd.prog 34 #[] w (fun e w' => e = .returned (.agg #[mvOf w 0, mvOf w 1, mvOf w 2, mvOf w 3, mvOf w 4, mvOf w 5, mvOf w 6, mvOf w 7, mvOf w 8, mvOf w 9]) ∧ Below w.heap.size w w' ∧ ∀ n, 1 ≤ n → n ≤ 9 → MapAt w' w'.heap.size n (mvOf w n)) := by
  have hmm := @run_makeMap Tryd.prog
  have M0 := Lib.hid (Made.start w)
  obtain ⟨w1, r1, h1⟩ : ∃ W', (Instr.mapUpdate 58 (.map (some (w.heap.size + 1))) (.string ⟨#[45, 62]⟩) (.agg #[.int .i64 19, .bool false])).run Tryd.prog ((w.alloc (.cells #[.map none, .map none, .map none, .map none, .map none, .map none, .map none, .map none, .map none, .map none] 59)).alloc (.map #[] 0)) = .ok () W' ∧ Made w _ W' := ins_ex M0.out.new 0 [] rfl ([45, 62], 19, false) rfl (by omega) rfl
  have M1 := Lib.hid h1
  have s1 : w1.heap.size = w.heap.size + 2 := h1.size
  clear h1
  obtain ⟨w2, r2, h2⟩ : ∃ W', (Instr.mapUpdate 58 (.map (some (w.heap.size + 2))) (.string ⟨#[61, 62]⟩) (.agg #[.int .i64 9, .bool false])).run Tryd.prog (w1.alloc (.map #[] 0)) = .ok () W' ∧ Made w _ W' := ins_ex M1.out.new 1 [] rfl ([61, 62], 9, false) rfl (by omega) rfl
  have M2 := Lib.hid h2
  have s2 : w2.heap.size = w.heap.size + 3 := h2.size
  clear h2
  obtain ⟨w3, r3, h3⟩ : ∃ W', (Instr.mapUpdate 58 (.map (some (w.heap.size + 3))) (.string ⟨#[115, 105, 110, 99, 101]⟩) (.agg #[.int .i64 20, .bool false])).run Tryd.prog (w2.alloc (.map #[] 0)) = .ok () W' ∧ Made w _ W' := ins_ex M2.out.new 2 [] rfl ([115, 105, 110, 99, 101], 20, false) rfl (by omega) rfl
  have M3 := Lib.hid h3
  have s3 : w3.heap.size = w.heap.size + 4 := h3.size
  clear h3
  obtain ⟨w4, r4, h4⟩ : ∃ W', (Instr.mapUpdate 58 (.map (some (w.heap.size + 4))) (.string ⟨#[111, 114]⟩) (.agg #[.int .i64 7, .bool false])).run Tryd.prog (w3.alloc (.map #[] 0)) = .ok () W' ∧ Made w _ W' := ins_ex M3.out.new 3 [] rfl ([111, 114], 7, false) rfl (by omega) rfl
  have M4 := Lib.hid h4
  have s4 : w4.heap.size = w.heap.size + 5 := h4.size
  clear h4
  obtain ⟨w5, r5, h5⟩ : ∃ W', (Instr.mapUpdate 58 (.map (some (w.heap.size + 4))) (.string ⟨#[120, 111, 114]⟩) (.agg #[.int .i64 8, .bool false])).run Tryd.prog w4 = .ok () W' ∧ Made w _ W' := ins_ex M4.out 3 [([111, 114], 7, false)] rfl ([120, 111, 114], 8, false) rfl (by omega) rfl
  have M5 := Lib.hid h5
  have s5 : w5.heap.size = w.heap.size + 5 := h5.size
  clear h5
  obtain ⟨w6, r6, h6⟩ : ∃ W', (Instr.mapUpdate 58 (.map (some (w.heap.size + 5))) (.string ⟨#[97, 110, 100]⟩) (.agg #[.int .i64 6, .bool false])).run Tryd.prog (w5.alloc (.map #[] 0)) = .ok () W' ∧ Made w _ W' := ins_ex M5.out.new 4 [] rfl ([97, 110, 100], 6, false) rfl (by omega) rfl
  have M6 := Lib.hid h6
  have s6 : w6.heap.size = w.heap.size + 6 := h6.size
  clear h6
  obtain ⟨w7, r7, h7⟩ : ∃ W', (Instr.mapUpdate 58 (.map (some (w.heap.size + 6))) (.string ⟨#[61]⟩) (.agg #[.int .i64 10, .bool false])).run Tryd.prog (w6.alloc (.map #[] 0)) = .ok () W' ∧ Made w _ W' := ins_ex M6.out.new 5 [] rfl ([61], 10, false) rfl (by omega) rfl
  have M7 := Lib.hid h7
  have s7 : w7.heap.size = w.heap.size + 7 := h7.size
  clear h7
  obtain ⟨w8, r8, h8⟩ : ∃ W', (Instr.mapUpdate 58 (.map (some (w.heap.size + 6))) (.string ⟨#[60, 62]⟩) (.agg #[.int .i64 11, .bool false])).run Tryd.prog w7 = .ok () W' ∧ Made w _ W' := ins_ex M7.out 5 [([61], 10, false)] rfl ([60, 62], 11, false) rfl (by omega) rfl
  have M8 := Lib.hid h8
  have s8 : w8.heap.size = w.heap.size + 7 := h8.size
  clear h8
  obtain ⟨w9, r9, h9⟩ : ∃ W', (Instr.mapUpdate 58 (.map (some (w.heap.size + 6))) (.string ⟨#[60]⟩) (.agg #[.int .i64 12, .bool false])).run Tryd.prog w8 = .ok () W' ∧ Made w _ W' := ins_ex M8.out 5 [([61], 10, false), ([60, 62], 11, false)] rfl ([60], 12, false) rfl (by omega) rfl
  have M9 := Lib.hid h9
  have s9 : w9.heap.size = w.heap.size + 7 := h9.size
  clear h9
  obtain ⟨w10, r10, h10⟩ : ∃ W', (Instr.mapUpdate 58 (.map (some (w.heap.size + 6))) (.string ⟨#[60, 61]⟩) (.agg #[.int .i64 13, .bool false])).run Tryd.prog w9 = .ok () W' ∧ Made w _ W' := ins_ex M9.out 5 [([61], 10, false), ([60, 62], 11, false), ([60], 12, false)] rfl ([60, 61], 13, false) rfl (by omega) rfl
  have M10 := Lib.hid h10
  have s10 : w10.heap.size = w.heap.size + 7 := h10.size
  clear h10
  obtain ⟨w11, r11, h11⟩ : ∃ W', (Instr.mapUpdate 58 (.map (some (w.heap.size + 6))) (.string ⟨#[62]⟩) (.agg #[.int .i64 12, .bool true])).run Tryd.prog w10 = .ok () W' ∧ Made w _ W' := ins_ex M10.out 5 [([61], 10, false), ([60, 62], 11, false), ([60], 12, false), ([60, 61], 13, false)] rfl ([62], 12, true) rfl (by omega) rfl
  have M11 := Lib.hid h11
  have s11 : w11.heap.size = w.heap.size + 7 := h11.size
  clear h11
  obtain ⟨w12, r12, h12⟩ : ∃ W', (Instr.mapUpdate 58 (.map (some (w.heap.size + 6))) (.string ⟨#[62, 61]⟩) (.agg #[.int .i64 13, .bool true])).run Tryd.prog w11 = .ok () W' ∧ Made w _ W' := ins_ex M11.out 5 [([61], 10, false), ([60, 62], 11, false), ([60], 12, false), ([60, 61], 13, false), ([62], 12, true)] rfl ([62, 61], 13, true) rfl (by omega) rfl
  have M12 := Lib.hid h12
  have s12 : w12.heap.size = w.heap.size + 7 := h12.size
  clear h12
  obtain ⟨w13, r13, h13⟩ : ∃ W', (Instr.mapUpdate 58 (.map (some (w.heap.size + 7))) (.string ⟨#[43]⟩) (.agg #[.int .i64 14, .bool false])).run Tryd.prog (w12.alloc (.map #[] 0)) = .ok () W' ∧ Made w _ W' := ins_ex M12.out.new 6 [] rfl ([43], 14, false) rfl (by omega) rfl
  have M13 := Lib.hid h13
  have s13 : w13.heap.size = w.heap.size + 8 := h13.size
  clear h13
  obtain ⟨w14, r14, h14⟩ : ∃ W', (Instr.mapUpdate 58 (.map (some (w.heap.size + 7))) (.string ⟨#[45]⟩) (.agg #[.int .i64 15, .bool false])).run Tryd.prog w13 = .ok () W' ∧ Made w _ W' := ins_ex M13.out 6 [([43], 14, false)] rfl ([45], 15, false) rfl (by omega) rfl
  have M14 := Lib.hid h14
  have s14 : w14.heap.size = w.heap.size + 8 := h14.size
  clear h14
  obtain ⟨w15, r15, h15⟩ : ∃ W', (Instr.mapUpdate 58 (.map (some (w.heap.size + 8))) (.string ⟨#[42]⟩) (.agg #[.int .i64 16, .bool false])).run Tryd.prog (w14.alloc (.map #[] 0)) = .ok () W' ∧ Made w _ W' := ins_ex M14.out.new 7 [] rfl ([42], 16, false) rfl (by omega) rfl
  have M15 := Lib.hid h15
  have s15 : w15.heap.size = w.heap.size + 9 := h15.size
  clear h15
  obtain ⟨w16, r16, h16⟩ : ∃ W', (Instr.mapUpdate 58 (.map (some (w.heap.size + 8))) (.string ⟨#[100, 105, 118]⟩) (.agg #[.int .i64 17, .bool false])).run Tryd.prog w15 = .ok () W' ∧ Made w _ W' := ins_ex M15.out 7 [([42], 16, false)] rfl ([100, 105, 118], 17, false) rfl (by omega) rfl
  have M16 := Lib.hid h16
  have s16 : w16.heap.size = w.heap.size + 9 := h16.size
  clear h16
  obtain ⟨w17, r17, h17⟩ : ∃ W', (Instr.mapUpdate 58 (.map (some (w.heap.size + 8))) (.string ⟨#[109, 111, 100]⟩) (.agg #[.int .i64 18, .bool false])).run Tryd.prog w16 = .ok () W' ∧ Made w _ W' := ins_ex M16.out 7 [([42], 16, false), ([100, 105, 118], 17, false)] rfl ([109, 111, 100], 18, false) rfl (by omega) rfl
  have M17 := Lib.hid h17
  have s17 : w17.heap.size = w.heap.size + 9 := h17.size
  clear h17
  obtain ⟨w18, r18, h18⟩ : ∃ W', (Instr.mapUpdate 58 (.map (some (w.heap.size + 9))) (.string ⟨#[110, 111, 116]⟩) (.agg #[.int .i64 4, .bool false])).run Tryd.prog (w17.alloc (.map #[] 0)) = .ok () W' ∧ Made w _ W' := ins_ex M17.out.new 8 [] rfl ([110, 111, 116], 4, false) rfl (by omega) rfl
  have M18 := Lib.hid h18
  have s18 : w18.heap.size = w.heap.size + 10 := h18.size
  clear h18
  obtain ⟨w19, r19, h19⟩ : ∃ W', (Instr.mapUpdate 58 (.map (some (w.heap.size + 9))) (.string ⟨#[45]⟩) (.agg #[.int .i64 5, .bool false])).run Tryd.prog w18 = .ok () W' ∧ Made w _ W' := ins_ex M18.out 8 [([110, 111, 116], 4, false)] rfl ([45], 5, false) rfl (by omega) rfl
  have M19 := Lib.hid h19
  have s19 : w19.heap.size = w.heap.size + 10 := h19.size
  clear h19
  obtain ⟨w20, r20, h20⟩ : ∃ W', (Instr.mapUpdate 58 (.map (some (w.heap.size + 9))) (.string ⟨#[112, 114, 101]⟩) (.agg #[.int .i64 21, .bool false])).run Tryd.prog w19 = .ok () W' ∧ Made w _ W' := ins_ex M19.out 8 [([110, 111, 116], 4, false), ([45], 5, false)] rfl ([112, 114, 101], 21, false) rfl (by omega) rfl
  have M20 := Lib.hid h20
  have s20 : w20.heap.size = w.heap.size + 10 := h20.size
  clear h20
  obtain ⟨w21, r21, h21⟩ : ∃ W', (Instr.mapUpdate 58 (.map (some (w.heap.size + 9))) (.string ⟨#[111, 110, 99, 101]⟩) (.agg #[.int .i64 22, .bool false])).run Tryd.prog w20 = .ok () W' ∧ Made w _ W' := ins_ex M20.out 8 [([110, 111, 116], 4, false), ([45], 5, false), ([112, 114, 101], 21, false)] rfl ([111, 110, 99, 101], 22, false) rfl (by omega) rfl
  have M21 := Lib.hid h21
  have s21 : w21.heap.size = w.heap.size + 10 := h21.size
  clear h21
  obtain ⟨w22, r22, h22⟩ : ∃ W', (Instr.mapUpdate 58 (.map (some (w.heap.size + 9))) (.string ⟨#[104, 105, 115, 116]⟩) (.agg #[.int .i64 23, .bool false])).run Tryd.prog w21 = .ok () W' ∧ Made w _ W' := ins_ex M21.out 8 [([110, 111, 116], 4, false), ([45], 5, false), ([112, 114, 101], 21, false), ([111, 110, 99, 101], 22, false)] rfl ([104, 105, 115, 116], 23, false) rfl (by omega) rfl
  have M22 := Lib.hid h22
  have s22 : w22.heap.size = w.heap.size + 10 := h22.size
  clear h22
  obtain ⟨w23, r23, h23⟩ : ∃ W', (Instr.mapUpdate 58 (.map (some (w.heap.size + 9))) (.string ⟨#[112, 114, 101, 118]⟩) (.agg #[.int .i64 24, .bool false])).run Tryd.prog w22 = .ok () W' ∧ Made w _ W' := ins_ex M22.out 8 [([110, 111, 116], 4, false), ([45], 5, false), ([112, 114, 101], 21, false), ([111, 110, 99, 101], 22, false), ([104, 105, 115, 116], 23, false)] rfl ([112, 114, 101, 118], 24, false) rfl (by omega) rfl
  have M23 := Lib.hid h23
  have s23 : w23.heap.size = w.heap.size + 10 := h23.size
  clear h23
  obtain ⟨w24, r24, h24⟩ : ∃ W', (Instr.mapUpdate 58 (.map (some (w.heap.size + 9))) (.string ⟨#[119, 105, 116, 104, 105, 110]⟩) (.agg #[.int .i64 25, .bool false])).run Tryd.prog w23 = .ok () W' ∧ Made w _ W' := ins_ex M23.out 8 [([110, 111, 116], 4, false), ([45], 5, false), ([112, 114, 101], 21, false), ([111, 110, 99, 101], 22, false), ([104, 105, 115, 116], 23, false), ([112, 114, 101, 118], 24, false)] rfl ([119, 105, 116, 104, 105, 110], 25, false) rfl (by omega) rfl
  have M24 := Lib.hid h24
  have s24 : w24.heap.size = w.heap.size + 10 := h24.size
  clear h24
  have x0 := M24.out.res
  have c0 : w24.cell? ⟨w.heap.size, 0, none⟩ = some (.map none) := (cell_at x0 0).trans rfl
  have f0 : w24.frozen? ⟨w.heap.size, 0, none⟩ = false := free_at x0 0
  have c1 : w24.cell? ⟨w.heap.size, 1, none⟩ = some (.map none) := (cell_at x0 1).trans rfl
  have f1 : w24.frozen? ⟨w.heap.size, 1, none⟩ = false := free_at x0 1
  have c2 : w24.cell? ⟨w.heap.size, 2, none⟩ = some (.map none) := (cell_at x0 2).trans rfl
  have f2 : w24.frozen? ⟨w.heap.size, 2, none⟩ = false := free_at x0 2
  have c3 : w24.cell? ⟨w.heap.size, 3, none⟩ = some (.map none) := (cell_at x0 3).trans rfl
  have f3 : w24.frozen? ⟨w.heap.size, 3, none⟩ = false := free_at x0 3
  have c4 : w24.cell? ⟨w.heap.size, 4, none⟩ = some (.map none) := (cell_at x0 4).trans rfl
  have f4 : w24.frozen? ⟨w.heap.size, 4, none⟩ = false := free_at x0 4
  have c5 : w24.cell? ⟨w.heap.size, 5, none⟩ = some (.map none) := (cell_at x0 5).trans rfl
  have f5 : w24.frozen? ⟨w.heap.size, 5, none⟩ = false := free_at x0 5
  have c6 : w24.cell? ⟨w.heap.size, 6, none⟩ = some (.map none) := (cell_at x0 6).trans rfl
  have f6 : w24.frozen? ⟨w.heap.size, 6, none⟩ = false := free_at x0 6
  have c7 : w24.cell? ⟨w.heap.size, 7, none⟩ = some (.map none) := (cell_at x0 7).trans rfl
  have f7 : w24.frozen? ⟨w.heap.size, 7, none⟩ = false := free_at x0 7
  have c8 : w24.cell? ⟨w.heap.size, 8, none⟩ = some (.map none) := (cell_at x0 8).trans rfl
  have f8 : w24.frozen? ⟨w.heap.size, 8, none⟩ = false := free_at x0 8
  have c9 : w24.cell? ⟨w.heap.size, 9, none⟩ = some (.map none) := (cell_at x0 9).trans rfl
  have f9 : w24.frozen? ⟨w.heap.size, 9, none⟩ = false := free_at x0 9
  clear x0
  go_enter Tryd.func34, Tryd.ntmps34
  go_wp2
  obtain ⟨W, hW, hc, hB, hm⟩ := signs_end M24.out rfl (fun n hn => by
    match n, hn with
    | 0, _ => rfl
    | 1, _ => rfl
    | 2, _ => rfl
    | 3, _ => rfl
    | 4, _ => rfl
    | 5, _ => rfl
    | 6, _ => rfl
    | 7, _ => rfl
    | 8, _ => rfl
    | k + 9, h => omega)
  clear r1 s1 r2 s2 r3 s3 r4 s4 r5 s5 r6 s6 r7 s7 r8 s8 r9 s9 r10 s10 r11 s11 r12 s12 r13 s13 r14 s14 r15 s15 r16 s16 r17 s17 r18 s18 r19 s19 r20 s20 r21 s21 r22 s22 r23 s23 r24 s24 c0 f0 c1 f1 c2 f2 c3 f3 c4 f4 c5 f5 c6 f6 c7 f7 c8 f8 c9 f9
  refine bodyPost_at (v := .agg #[mvOf w 0, mvOf w 1, mvOf w 2, mvOf w 3, mvOf w 4, mvOf w 5, mvOf w 6, mvOf w 7, mvOf w 8, mvOf w 9]) hW ?_ rfl ⟨rfl, hB, hm⟩
  clear hW hB hm
  have k0 : W.cell? ⟨w.heap.size, 0, none⟩ = some (.map none) := (hc 0).trans rfl
  have k1 : W.cell? ⟨w.heap.size, 1, none⟩ = some (.map (some (w.heap.size + 1))) := (hc 1).trans rfl
  have k2 : W.cell? ⟨w.heap.size, 2, none⟩ = some (.map (some (w.heap.size + 2))) := (hc 2).trans rfl
  have k3 : W.cell? ⟨w.heap.size, 3, none⟩ = some (.map (some (w.heap.size + 3))) := (hc 3).trans rfl
  have k4 : W.cell? ⟨w.heap.size, 4, none⟩ = some (.map (some (w.heap.size + 4))) := (hc 4).trans rfl
  have k5 : W.cell? ⟨w.heap.size, 5, none⟩ = some (.map (some (w.heap.size + 5))) := (hc 5).trans rfl
  have k6 : W.cell? ⟨w.heap.size, 6, none⟩ = some (.map (some (w.heap.size + 6))) := (hc 6).trans rfl
  have k7 : W.cell? ⟨w.heap.size, 7, none⟩ = some (.map (some (w.heap.size + 7))) := (hc 7).trans rfl
  have k8 : W.cell? ⟨w.heap.size, 8, none⟩ = some (.map (some (w.heap.size + 8))) := (hc 8).trans rfl
  have k9 : W.cell? ⟨w.heap.size, 9, none⟩ = some (.map (some (w.heap.size + 9))) := (hc 9).trans rfl
  clear hc
  simp [results, Tryd.results34, go_sem, k0, k1, k2, k3, k4, k5, k6, k7, k8, k9, mvOf]
end Go.Proofs.YtgohhnbdicdenaaDoor.Ex

/- Contract of Parse. Conditions: the tokens lie in memory; they are not too many. -/
namespace Go.Proofs.YtgohhnbdicdenaaDoor.Ex
open Go.ChangeShapes Go.WideShapes Go.ChangeAt Go.RowKit
open Go.Proofs.YtgohhnbdicdenaaDoor.Tr (str ret_bool ret_int Bytes Nd joinM roomM own_block)
set_option linter.unusedVariables false
set_option linter.unusedSimpArgs false

def mvN (m n : Nat) : Value := if n = 0 then .map none else .map (some (m + n))
theorem signs_at {w : World} {m : Nat} (hm : w.heap.size = m) : Calls Tryd.prog 34 #[] w (fun e w' => e = .returned (.agg #[.map none, .map (some (m + 1)), .map (some (m + 2)), .map (some (m + 3)), .map (some (m + 4)), .map (some (m + 5)), .map (some (m + 6)), .map (some (m + 7)), .map (some (m + 8)), .map (some (m + 9))]) ∧ Below w.heap.size w w' ∧ ∀ n, 1 ≤ n → n ≤ 9 → MapAt w' w'.heap.size n (mvN m n)) := by
  subst hm
  exact signs_any w
theorem TokOff.rise {w w2 W : World} {lv : Value} {l : List Tok} (h : TokOff w w.heap.size lv l) (hb : Below w.heap.size w w2) (hb2 : Below w2.heap.size w2 W) : TokOff W w2.heap.size lv l := by
  obtain ⟨A, c, h0, h1, h2, h3⟩ := h
  have hs := hb.size
  refine TokOff.keep (w := w) ⟨A, c, h0, h1, h2, fun i t hi => ?_⟩ (Nat.le_trans hb.size hb2.size) (fun g _ hg => (hb2.block g (by omega)).trans (hb.block g hg))
  obtain ⟨g, e1, e2, e3, e4⟩ := h3 i t hi
  exact ⟨g, e1, by omega, e3, e4⟩
theorem VarAt.rise {w w2 W : World} (h : VarAt w w.heap.size) (hb : Below w.heap.size w w2) (hb2 : Below w2.heap.size w2 W) : VarAt W w2.heap.size := by
  have hs := hb.size
  exact VarAt.keep (w := w) ⟨by have := h.1; omega, h.2⟩ (Nat.le_trans hb.size hb2.size) (fun g _ hg => (hb2.block g (by omega)).trans (hb.block g hg))
theorem two_cells {W : World} {B T : Nat} {u0 u1 : Value} (h : W.heap[B]? = some (.cells #[u0, u1] T (0, 0))) (v0 v1 : Value) :
    ((W.setCell ⟨B, 0, none⟩ v0).setCell ⟨B, 1, none⟩ v1).cell? ⟨B, 0, none⟩ = some v0 ∧ ((W.setCell ⟨B, 0, none⟩ v0).setCell ⟨B, 1, none⟩ v1).cell? ⟨B, 1, none⟩ = some v1 := by
  have h2 := setObj_heap (v := v1) (setObj_heap (v := v0) h (k := 0) (by simp)) (k := 1) (by simp)
  constructor <;> simp [World.cell?, h2]
theorem at_i {w : World} {v : Value} {l : List Tok} {b n : Nat} {i : Int} (hi : i = (n : Int)) (hv : TokOff w b v l) (hn : n ≤ 1000000) :
    Calls Tryd.prog 25 #[v, .int .i64 i] w (fun e w' => e = .returned (.int .i64 (atM l n)) ∧ w = w') := by
  subst hi; exact at_any v l b n w hv hn
/-- What Parse tells. -/
def ParseTo (w : World) (x : List Nd × Nat × Int × Int) (e : Ending) (w' : World) : Prop :=
  ∃ ev, e = .returned (.tuple #[ev, .int .i64 (x.2.1 : Int), .agg #[.int .i64 x.2.2.1, .int .i64 x.2.2.2]]) ∧ PtW w' (ev, ⟨x.1, 0, 0⟩) ∧ Below w.heap.size w w'
end Go.Proofs.YtgohhnbdicdenaaDoor.Ex

/- Contract of Parse. Conditions: the tokens lie in memory; they are not too many. -/
namespace Go.Proofs.YtgohhnbdicdenaaDoor.Ex
open Go.ChangeShapes Go.WideShapes Go.ChangeAt Go.RowKit
open Go.Proofs.YtgohhnbdicdenaaDoor.Tr (str ret_bool ret_int Bytes Nd joinM roomM own_block)
set_option linter.unusedVariables false
set_option linter.unusedSimpArgs false

set_option maxRecDepth 100000 in
set_option maxHeartbeats 4000000 in
theorem parse_c1 (l : List Tok) (lv : Value) (n : Nat) (w : World) (hv : TokOff w w.heap.size lv l) (hvar : VarAt w w.heap.size) (hok : OkR ⟨l, n, 0, 0, 0⟩) (p : Pt) (r' : Rd) (h : run (fuelOf l n) (.lev 1) ⟨l, n, 0, 0, 0⟩ = some (p, r'))
    (hc : r'.code ≠ 0) :
    Calls Tryd.prog 18 #[lv, .int .i64 (n : Int)] w (ParseTo w (parseOf l n (p, r'))) := by
  have HV := Lib.hid hv
  have HVAR := Lib.hid hvar
  have HOK := Lib.hid hok
  have H := Lib.hid h
  obtain ⟨st1, ok1, mu1⟩ := run_step _ _ _ _ _ h hok.fine (by simp [Task.pre])
  have HO1 := Lib.hid ok1
  have hmu := (hok.step st1).mu
  have hnx := hok.nx
  have HOK1 := Lib.hid (hok.step st1)
  have hpn : p.nodes ≤ 100001 := by simp only [Task.base] at mu1; omega
  obtain ⟨A, c, rfl, l1, l2, l3⟩ := hv
  unfold maxLen at l2
  clear hvar hok h st1 ok1 mu1 l3
  have hcd : (r'.code == 0) = false := by rw [beq_eq_false_iff_ne]; exact hc
  have HE : Hid (parseOf l n (p, r') = ([], 0, r'.code, r'.at_)) := Lib.hid (by simp only [parseOf]; rw [if_pos hc])
  rw [HE.out]
  clear hc
  go_enter Tryd.func18, Tryd.ntmps18
  go_wp2_with fail
  obtain ⟨m, hmm⟩ : ∃ m, w.heap.size + 1 = m := ⟨_, rfl⟩
  refine (signs_at (m := m) (by rw [← hmm]; simp)).mono ?_
  rintro e w2 ⟨rfl, hb2, hm2⟩
  have HB2 := Lib.hid hb2
  have HM2 := Lib.hid hm2
  have hs2 := hb2.size
  have HMM := Lib.hid hmm
  simp at hs2
  have X6 : Hid (w2.heap[w.heap.size]? = some (.cells #[.int .i64 0, .int .i64 0] 27 (0, 0))) := Lib.hid ((hb2.block w.heap.size (by simp)).trans (heap_alloc_new w _))
  have HBW : Hid (Below w.heap.size w w2) := Lib.hid ((below_new w _).trans (hb2.mono (by simp)))
  clear hb2 hm2 hmm
  go_wp2_with fail
  have HRA : Hid (RdAt (w2.alloc (.cells #[.slice A l.length c, .int .i64 (n : Int), .int .i64 0, .int .i64 0, .int .i64 0, .map none, .map (some (m + 1)), .map (some (m + 2)), .map (some (m + 3)), .map (some (m + 4)), .map (some (m + 5)), .map (some (m + 6)), .map (some (m + 7)), .map (some (m + 8)), .map (some (m + 9))] 62)) w2.heap.size (mvN m) ⟨l, n, 0, 0, 0⟩) := Lib.hid
    ⟨⟨.slice A l.length c, heap_alloc_new w2 _, HV.out.rise HBW.out (below_new w2 _)⟩, fun k h1 h9 => (HM2.out k h1 h9).keep (by simp) (fun g _ hg => Below.heap_alloc _ _ _ hg), HVAR.out.rise HBW.out (below_new w2 _)⟩
  refine (lev_at (i := 1) (n := 1) (lev_ok _) H.out rfl (by omega) (by omega) HOK.out HRA.out).mono ?_
  rintro e w3 ⟨ev, rfl, hpt, hrd⟩
  have HPT := Lib.hid hpt
  have HRD := Lib.hid hrd
  have X63 : Hid (w3.heap[w.heap.size]? = some (.cells #[.int .i64 0, .int .i64 0] 27 (0, 0))) := Lib.hid (stay hrd.grown (stayA X6.out) (by omega))
  have hs3 := hrd.grown.size
  simp at hs3
  obtain ⟨lv', hblk, -⟩ := hrd.rd.blk
  have HBLK := Lib.hid hblk
  obtain ⟨⟨Ae, ce, hev, y1, y2, -⟩, -⟩ := hpt
  simp only at hev y1
  subst hev
  unfold maxLen at y2
  have HB3 : Hid (Below w.heap.size w w3) := Lib.hid ⟨hrd.grown.os.trans HBW.out.os, hrd.grown.tape.trans HBW.out.tape, hrd.grown.output.trans HBW.out.output, by omega, fun g hg => (stay hrd.grown (stayA (o := w.heap[g]'hg) (by rw [HBW.out.block g hg]; simp [hg])) (by omega)).trans (by simp [hg])⟩
  clear hrd hblk
  have c1 : w3.cell? ⟨w2.heap.size, 1, none⟩ = some (.int .i64 (r'.next : Int)) := rd_cell HBLK.out 1
  have c3 : w3.cell? ⟨w2.heap.size, 3, none⟩ = some (.int .i64 r'.code) := rd_cell HBLK.out 3
  have c4 : w3.cell? ⟨w2.heap.size, 4, none⟩ = some (.int .i64 r'.at_) := rd_cell HBLK.out 4
  have c60 : w3.cell? ⟨w.heap.size, 0, none⟩ = some (.int .i64 0) := (cell_at X63.out 0).trans rfl
  have c61 : w3.cell? ⟨w.heap.size, 1, none⟩ = some (.int .i64 0) := (cell_at X63.out 1).trans rfl
  have f60 : w3.frozen? ⟨w.heap.size, 0, none⟩ = false := free_at X63.out 0
  have f61 : w3.frozen? ⟨w.heap.size, 1, none⟩ = false := free_at X63.out 1
  have hl3 : w.heap.size < w3.heap.size := lt_of_block X63.out
  have hl23 : w2.heap.size < w3.heap.size := lt_of_block HBLK.out
  have HBA : Hid (Below w.heap.size w (w3.alloc (.cells #[.slice Ae p.e.length ce, .int .i64 (p.nodes : Int), .int .i64 (p.deep : Int)] 64))) := Lib.hid (HB3.out.alloc (by omega) _)
  have X64 := Lib.hid (stayA (o' := .cells #[.slice Ae p.e.length ce, .int .i64 (p.nodes : Int), .int .i64 (p.deep : Int)] 64) X63.out)
  have HPTA := Lib.hid (HPT.out.below (below_new w3 (.cells #[.slice Ae p.e.length ce, .int .i64 (p.nodes : Int), .int .i64 (p.deep : Int)] 64)))
  have hdp : p.deep ≤ p.nodes := HO1.out.deep
  go_wp2_with fail
  go_region
  all_goals go_wp2
  all_goals
    refine bodyPost_ret (v := .tuple #[.slice none 0 0, .int .i64 (0), .agg #[.int .i64 (r'.code), .int .i64 (r'.at_)]]) ?_ rfl ⟨_, rfl, (PtW.nil _ ⟨[], 0, 0⟩ rfl), ?_⟩
    · obtain ⟨k0, k1⟩ := pair_cells (o := .cells #[.slice Ae p.e.length ce, .int .i64 (p.nodes : Int), .int .i64 (p.deep : Int)] 64) (.int .i64 (r'.code)) (.int .i64 (r'.at_)) X63.out
      clear c1 c3 c4 c60 c61 f60 f61
      simp [results, Tryd.results18, go_sem, k0, k1]
    · repeat (first | exact HB3.out | refine Below.alloc ?_ (by simp [World.setCell]; omega) _ | refine Below.setCell ?_ (by exact Nat.le_refl _) _ | refine Below.drew ?_)
end Go.Proofs.YtgohhnbdicdenaaDoor.Ex

