/- The document's bytes of code. Conditions: inputs and outs have at most a million each. -/
import Derived.Test.YtcphjehjdhgheaaImF
import Derived.Deep.CutRange
import Derived.Test.YtcphjehjdhgheaaNtQc
namespace Go.Proofs.Ytcphjehjdhgheaa.Nt
open Go.ChangeShapes Go.WideShapes Go.ChangeAt Go.RowKit Go.Proofs.Ytcphjehjdhgheaa.Tr
set_option linter.unusedVariables false
set_option linter.unusedSimpArgs false

def bailB : ByteArray := ⟨#[66, 65, 73, 76]⟩
theorem op_call {P : Program} {ops : Array Oper} {Q : Exit → Act → World → Prop} {i : Nat} {o : Oper} {K : Act → World → Prop} {a : Act} {w : World} (hi : ops[i]? = some o) (hg : o.guard = none) (f : Nat) (args : Array Value) (hr : (execOp a.eval o).run P w = .ok (.enter f args) w)
    (h : Calls P f args w fun e w' => ∃ v, e = .returned v ∧ K (a.put o.dst v) w') : wpOp P ops Q i K a w := by
  refine op_go hi hg ?_
  unfold Oper.wp
  rw [hr]
  refine Calls.mono h fun e w' he => ?_
  obtain ⟨v, rfl, hk⟩ := he
  exact hk
set_option maxRecDepth 100000 in
set_option maxHeartbeats 16000000 in
theorem jenc_any (w : World) (iv ov pv : Value) (C : Cod) (h : CodR w iv ov pv C) (hi6 : C.inp.length ≤ 1000000) (ho6 : C.outs.length ≤ 1000000) : Calls Try.prog 42 #[.agg #[iv, .int .i64 C.regs, .int .i64 C.slots, ov, pv]] w (fun e w' => e = .returned (.tuple #[.string (bs (encM C)), .int .i64 (encF C)]) ∧ Below w.heap.size w w') := by
  have HH := Lib.hid h
  obtain ⟨cA, cc, rfl, z1, z2⟩ := h.1.form
  obtain ⟨oA, oc, rfl, z3, z4⟩ := ints_form h.2.1
  obtain ⟨qA, qc, rfl, z5, z6⟩ := ints_form h.2.2
  obtain ⟨li, hli⟩ : ∃ k, C.ins.length = k := ⟨_, rfl⟩
  obtain ⟨lo, hlo⟩ : ∃ k, C.outs.length = k := ⟨_, rfl⟩
  obtain ⟨lq, hlq⟩ : ∃ k, C.inp.length = k := ⟨_, rfl⟩
  obtain ⟨rg, hrg⟩ : ∃ k, C.regs = k := ⟨_, rfl⟩
  obtain ⟨sl, hsl⟩ : ∃ k, C.slots = k := ⟨_, rfl⟩
  have HZ : Hid (Sz C li rg sl lo lq) := Lib.hid ⟨hli, hrg, hsl, hlo, hlq⟩
  rw [hli, hlo, hlq] at HH
  rw [hli, hlo, hlq, hrg, hsl]
  rw [hli] at z1
  rw [hlo] at z3
  rw [hlq] at z5
  rw [hlq] at hi6
  rw [hlo] at ho6
  unfold maxLen at z2 z4 z6
  obtain ⟨x, hx⟩ : ∃ W, w.alloc (.cells #[.slice cA li cc, .int .i64 rg, .int .i64 sl, .slice oA lo oc, .slice qA lq qc] 54) = W := ⟨_, rfl⟩
  have HX := Lib.hid hx
  have HBX : Hid (Below w.heap.size w x) := Lib.hid (by rw [← hx]; exact below_new _ _)
  have HXX : Hid (CodBox x w.heap.size 54 (.slice cA li cc) rg sl (.slice oA lo oc) (.slice qA lq qc)) := Lib.hid (by rw [← hx]; exact codbox_new _ _ _ _ _ _ _)
  have HCX : Hid (CodR x (.slice cA li cc) (.slice oA lo oc) (.slice qA lq qc) C) := Lib.hid ⟨HH.out.1.below HBX.out (Nat.le_refl _), HH.out.2.1.below HBX.out (Nat.le_refl _), HH.out.2.2.below HBX.out (Nat.le_refl _)⟩
  obtain ⟨K, hK⟩ : ∃ K, checkK C = K := ⟨_, rfl⟩
  have HK := Lib.hid hK
  have HCK : Hid (Calls Try.prog 35 #[.agg #[.slice cA li cc, .int .i64 rg, .int .i64 sl, .slice oA lo oc, .slice qA lq qc]] x (fun e w' => e = .returned (.int .i64 K) ∧ Below x.heap.size x w')) := Lib.hid (by
    have h1 := kcheck_any x _ _ _ C HCX.out
    rw [hrg, hsl, hK] at h1
    exact h1)
  have HJ : Hid (∀ (k : Int), 0 ≤ k ∧ k < 34359738368 → ∀ W, Calls Try.prog 82 #[.int .i64 k] W (fun e w' => e = .returned (.string (bs (numM k.toNat))) ∧ Below W.heap.size W w')) := Lib.hid (fun k h W => jnum_of W k h.1 h.2)
  obtain ⟨p0, p1, p2, p3, p4⟩ := HXX.out.ats
  clear h hx hli hlo hlq hrg hsl hK
  go_enter Try.func42, Try.ntmps42
  go_wp2_with fail
  try rw [HX.out]
  try go_wp2_with fail
  refine HCK.out.mono ?_
  rintro e w1 ⟨rfl, hb1⟩
  have HB1 := Lib.hid hb1
  have HX1 := Lib.hid (HXX.out.below hb1 HXX.out.lt)
  have HC1 := Lib.hid (HCX.out.below hb1 (Nat.le_refl _))
  clear hb1 HCK p0 p1 p2 p3 p4
  by_cases hk : K ≠ 0
  · have hk2 : (K != 0) = true := by simpa using hk
    have HE : Hid (encF C = 1 ∧ bs (encM C) = ⟨#[]⟩) := Lib.hid (by
      have : encF C = 1 := by unfold encF; rw [HK.out, if_pos hk]
      exact ⟨this, by unfold encM; rw [this, if_neg (by decide)]; rfl⟩)
    go_wp2_with fail
    refine bodyPost_ret (v := .tuple #[.string ⟨#[]⟩, .int .i64 1]) (by simp [results, Try.results42, go_sem]) rfl ⟨by rw [HE.out.1, HE.out.2], HBX.out.trans (HB1.out.mono HBX.out.size)⟩
  have hk0 : K = 0 := by omega
  subst hk0
  clear hk
  go_wp2_with fail
  go_loopw [4] (fun vi wr => ∃ (i : Nat), i ≤ lq ∧ vi = .int .i64 (i : Int) ∧ Below w1.heap.size w1 wr ∧ inpB (C.inp.take i) = true) (fun vi _ => lq - (intOf vi).toNat)
  case atStart => exact ⟨0, Nat.zero_le _, rfl, Below.refl _ _, rfl⟩
  case round =>
    obtain ⟨i, hi, rfl, hbr, hbt⟩ := hrel
    have HBT := Lib.hid hbt
    have HBR := Lib.hid hbr
    have HXR := Lib.hid (HX1.out.below hbr HX1.out.lt)
    have HCR := Lib.hid (HC1.out.below hbr (Nat.le_refl _))
    have HBW : Hid (Below w.heap.size w wr) := Lib.hid (HBX.out.trans ((HB1.out.trans (hbr.mono HB1.out.size)).mono HBX.out.size))
    obtain ⟨q0, q1, q2, q3, q4⟩ := HXR.out.ats
    clear hbt hbr
    by_cases hlt : i < lq
    · obtain ⟨k, hk⟩ : ∃ k, C.inp[i]? = some k := ⟨_, List.getElem?_eq_getElem (by rw [HZ.out.inp]; exact hlt)⟩
      obtain ⟨g, o, rfl, hg, c0⟩ := ints_at HCR.out.2.2 hk
      have hl2 : (i : Int) < (lq : Int) := by omega
      have HNX : Hid (inpB (C.inp.take (i + 1)) = (decide (0 ≤ k) && decide (k ≤ 4294967295))) := Lib.hid (by
        have h1 := HBT.out
        unfold inpB at h1 ⊢
        rw [List.take_add_one, hk, List.all_append, h1]
        simp)
      have HBAD : Hid (¬ (0 ≤ k ∧ k ≤ 4294967295) → encF C = 1 ∧ bs (encM C) = ⟨#[]⟩) := Lib.hid (fun hb => by
        have h1 : inpB C.inp = false := by
          unfold inpB
          rw [List.all_eq_false]
          exact ⟨k, List.mem_of_getElem? hk, by simp; omega⟩
        have : encF C = 1 := by unfold encF; rw [HK.out, if_neg (by omega), if_pos h1]
        exact ⟨this, by unfold encM; rw [this, if_neg (by decide)]; rfl⟩)
      clear hk
      by_cases b1 : k < 0
      · have HE := Lib.hid (HBAD.out (by omega))
        go_wp2_with fail
        refine bodyPost_ret (v := .tuple #[.string ⟨#[]⟩, .int .i64 1]) (by simp [results, Try.results42, go_sem]) rfl ⟨by rw [HE.out.1, HE.out.2], HBW.out⟩
      by_cases b2 : 4294967295 < k
      · have HE := Lib.hid (HBAD.out (by omega))
        go_wp2_with fail
        refine bodyPost_ret (v := .tuple #[.string ⟨#[]⟩, .int .i64 1]) (by simp [results, Try.results42, go_sem]) rfl ⟨by rw [HE.out.1, HE.out.2], HBW.out⟩
      · have HOKN : Hid (inpB (C.inp.take (i + 1)) = true) := Lib.hid (by rw [HNX.out]; simp; omega)
        go_wp2_with fail
        go_roundw
        case rel => exact ⟨i + 1, by omega, by go_num, HBR.out, HOKN.out⟩
        case measure => simp [intOf]; omega
    · have hl2 : ¬ (i : Int) < (lq : Int) := by omega
      have hin : C.inp.take i = C.inp := List.take_of_length_le (by rw [HZ.out.inp]; omega)
      have HIB : Hid (inpB C.inp = true) := Lib.hid (by rw [← hin]; exact HBT.out)
      have HE : Hid (encF C = 0 ∧ encM C = bytesM C) := Lib.hid (by
        have : encF C = 0 := by unfold encF; rw [HK.out, if_neg (by omega), if_neg (by rw [HIB.out]; simp)]
        exact ⟨this, by unfold encM; rw [this, if_pos rfl]⟩)
      have HOK := Lib.hid (ok_bnd HK.out (by rw [HZ.out.inp]; exact hi6))
      have HF := check_fits HK.out
      have hr := HF.regs
      have hs := HF.slots
      have hl := HF.len
      rw [HZ.out.regs] at hr
      rw [HZ.out.slots] at hs
      rw [HZ.out.ins] at hl
      have HOU : Hid (∀ k ∈ C.outs, 0 ≤ k ∧ k < 34359738368) := Lib.hid (fun k hk => by have := HF.outs k hk; have := HF.regs; omega)
      have HIN : Hid (∀ k ∈ C.inp, 0 ≤ k ∧ k < 34359738368) := Lib.hid (fun k hk => by
        have h1 := HIB.out
        unfold inpB at h1
        rw [List.all_eq_true] at h1
        have := h1 k hk
        simp at this
        omega)
      clear HF hin
      obtain ⟨S1, hS1⟩ : ∃ s, bs (numM rg.toNat) = s := ⟨_, rfl⟩
      obtain ⟨S2, hS2⟩ : ∃ s, bs (numM sl.toNat) = s := ⟨_, rfl⟩
      obtain ⟨S3, hS3⟩ : ∃ s, bs (listM C.inp) = s := ⟨_, rfl⟩
      obtain ⟨S4, hS4⟩ : ∃ s, bs (numM li) = s := ⟨_, rfl⟩
      have hz1 : S1.size ≤ 5 := by rw [← hS1, bs_size]; exact num_len _ (by omega)
      have hz2 : S2.size ≤ 5 := by rw [← hS2, bs_size]; exact num_len _ (by omega)
      have hz3 : S3.size ≤ 5000005 := by
        rw [← hS3, bs_size]
        unfold listM
        rw [List.length_append, HZ.out.inp]
        have h1 := num_len lq (by omega)
        have h2 := put_len C.inp HIN.out
        rw [HZ.out.inp] at h2
        omega
      have hz4 : S4.size ≤ 5 := by rw [← hS4, bs_size]; exact num_len _ (by omega)
      have HJ1 : Hid (∀ W, Calls Try.prog 82 #[.int .i64 rg] W (fun e w' => e = .returned (.string S1) ∧ Below W.heap.size W w')) := Lib.hid (fun W => by rw [← hS1]; exact jnum_of W rg (by omega) (by omega))
      have HJ2 : Hid (∀ W, Calls Try.prog 82 #[.int .i64 sl] W (fun e w' => e = .returned (.string S2) ∧ Below W.heap.size W w')) := Lib.hid (fun W => by rw [← hS2]; exact jnum_of W sl (by omega) (by omega))
      have HJ3 : Hid (∀ W, Below wr.heap.size wr W → Calls Try.prog 83 #[.slice qA lq qc] W (fun e w' => e = .returned (.string S3) ∧ Below W.heap.size W w')) := Lib.hid (fun W hW => by rw [← hS3]; exact jlist_any W qA lq qc C.inp HZ.out.inp hi6 HIN.out (HCR.out.2.2.below hW (Nat.le_refl _)))
      have HJ4 : Hid (∀ W, Calls Try.prog 82 #[.int .i64 (li : Int)] W (fun e w' => e = .returned (.string S4) ∧ Below W.heap.size W w')) := Lib.hid (fun W => by rw [← hS4]; exact jnum_of W (li : Int) (by omega) (by omega))
      have HSS : Hid (bailB ++ S1 ++ S2 ++ S3 ++ S4 = bs (bail ++ numM rg.toNat ++ numM sl.toNat ++ listM C.inp ++ numM li)) := Lib.hid (by
        rw [← hS1, ← hS2, ← hS3, ← hS4, show bailB = bs bail from rfl, bs_app, bs_app, bs_app, bs_app])
      have hy0 : (⟨#[66, 65, 73, 76]⟩ : ByteArray).size = 4 := rfl
      have hy1 : (⟨#[66, 65, 73, 76]⟩ : ByteArray).size + S1.size ≤ 9223372036854775807 := by omega
      have hy2 : 4 + S1.size + S2.size ≤ 9223372036854775807 := by omega
      have hy3 : 4 + S1.size + S2.size + S3.size ≤ 9223372036854775807 := by omega
      have hy4 : 4 + S1.size + S2.size + S3.size + S4.size ≤ 9223372036854775807 := by omega
      have HKC : Hid (∀ V, Below wr.heap.size wr V → V.cell? ⟨w.heap.size, 0, none⟩ = some (.slice cA li cc) ∧ V.cell? ⟨w.heap.size, 1, none⟩ = some (.int .i64 rg) ∧ V.cell? ⟨w.heap.size, 2, none⟩ = some (.int .i64 sl) ∧ V.cell? ⟨w.heap.size, 4, none⟩ = some (.slice qA lq qc)) := Lib.hid (fun V hV => by
        obtain ⟨a0, a1, a2, a3, a4⟩ := (HXR.out.below hV HXR.out.lt).ats
        exact ⟨a0, a1, a2, a4⟩)
      have HBcur : Hid (Below wr.heap.size wr wr.drew) := Lib.hid (Below.refl wr.heap.size wr).drew
      have HB10 : Hid (Below wr.heap.size wr wr) := Lib.hid (Below.refl _ _)
      clear hS1 hS2 hS3 hS4
      go_upto_region 8 with fail
      go_cut [5] from 35 to 51 (fun v5 wx => v5 = .string (bailB ++ S1 ++ S2 ++ S3 ++ S4) ∧ Below wr.heap.size wr wx)
      case first =>
        refine wp_region_held (S := fun V => V.cell? ⟨w.heap.size, 0, none⟩ = some (.slice cA li cc) ∧ V.cell? ⟨w.heap.size, 1, none⟩ = some (.int .i64 rg) ∧ V.cell? ⟨w.heap.size, 2, none⟩ = some (.int .i64 sl) ∧ V.cell? ⟨w.heap.size, 4, none⟩ = some (.slice qA lq qc)) (by kernel_rfl) ?_
        change wpAnyH _ _ _ _ _ 18 #[false, false, false, false, false, false, false, false, false, false, false, false, false, false, false, false, false, false] _ wr.drew
        have HS0 := Lib.hid (HKC.out _ HBcur.out)
        refine read_take (i := 0) (s := 35) (v := .pointer (some ⟨w.heap.size, 1, none⟩)) rfl rfl rfl (by kernel_rfl) (by kernel_rfl) (by kernel_rfl) (fun _ _ _ h => h) (fun W hW => ?q) HS0.out ?_
        case q =>
          obtain ⟨s0, s1, s2, s4⟩ := hW
          simp [execOp, go_sem, Act.put, Act.eval, s0, s1, s2, s4]
        simp only [Act.put, List.setIfInBounds_toArray, List.set_cons_zero, List.set_cons_succ]
        refine read_take (i := 1) (s := 36) (v := .int .i64 rg) rfl rfl rfl (by kernel_rfl) (by kernel_rfl) (by kernel_rfl) (fun _ _ _ h => h) (fun W hW => ?q) HS0.out ?_
        case q =>
          obtain ⟨s0, s1, s2, s4⟩ := hW
          simp [execOp, go_sem, Act.put, Act.eval, s0, s1, s2, s4]
        simp only [Act.put, List.setIfInBounds_toArray, List.set_cons_zero, List.set_cons_succ]
        refine read_take (i := 4) (s := 39) (v := .pointer (some ⟨w.heap.size, 2, none⟩)) rfl rfl rfl (by kernel_rfl) (by kernel_rfl) (by kernel_rfl) (fun _ _ _ h => h) (fun W hW => ?q) HS0.out ?_
        case q =>
          obtain ⟨s0, s1, s2, s4⟩ := hW
          simp [execOp, go_sem, Act.put, Act.eval, s0, s1, s2, s4]
        simp only [Act.put, List.setIfInBounds_toArray, List.set_cons_zero, List.set_cons_succ]
        refine read_take (i := 5) (s := 40) (v := .int .i64 sl) rfl rfl rfl (by kernel_rfl) (by kernel_rfl) (by kernel_rfl) (fun _ _ _ h => h) (fun W hW => ?q) HS0.out ?_
        case q =>
          obtain ⟨s0, s1, s2, s4⟩ := hW
          simp [execOp, go_sem, Act.put, Act.eval, s0, s1, s2, s4]
        simp only [Act.put, List.setIfInBounds_toArray, List.set_cons_zero, List.set_cons_succ]
        refine read_take (i := 8) (s := 43) (v := .pointer (some ⟨w.heap.size, 4, none⟩)) rfl rfl rfl (by kernel_rfl) (by kernel_rfl) (by kernel_rfl) (fun _ _ _ h => h) (fun W hW => ?q) HS0.out ?_
        case q =>
          obtain ⟨s0, s1, s2, s4⟩ := hW
          simp [execOp, go_sem, Act.put, Act.eval, s0, s1, s2, s4]
        simp only [Act.put, List.setIfInBounds_toArray, List.set_cons_zero, List.set_cons_succ]
        refine read_take (i := 9) (s := 44) (v := .slice qA lq qc) rfl rfl rfl (by kernel_rfl) (by kernel_rfl) (by kernel_rfl) (fun _ _ _ h => h) (fun W hW => ?q) HS0.out ?_
        case q =>
          obtain ⟨s0, s1, s2, s4⟩ := hW
          simp [execOp, go_sem, Act.put, Act.eval, s0, s1, s2, s4]
        simp only [Act.put, List.setIfInBounds_toArray, List.set_cons_zero, List.set_cons_succ]
        refine read_take (i := 12) (s := 47) (v := .pointer (some ⟨w.heap.size, 0, none⟩)) rfl rfl rfl (by kernel_rfl) (by kernel_rfl) (by kernel_rfl) (fun _ _ _ h => h) (fun W hW => ?q) HS0.out ?_
        case q =>
          obtain ⟨s0, s1, s2, s4⟩ := hW
          simp [execOp, go_sem, Act.put, Act.eval, s0, s1, s2, s4]
        simp only [Act.put, List.setIfInBounds_toArray, List.set_cons_zero, List.set_cons_succ]
        refine read_take (i := 13) (s := 48) (v := .slice cA li cc) rfl rfl rfl (by kernel_rfl) (by kernel_rfl) (by kernel_rfl) (fun _ _ _ h => h) (fun W hW => ?q) HS0.out ?_
        case q =>
          obtain ⟨s0, s1, s2, s4⟩ := hW
          simp [execOp, go_sem, Act.put, Act.eval, s0, s1, s2, s4]
        simp only [Act.put, List.setIfInBounds_toArray, List.set_cons_zero, List.set_cons_succ]
        refine read_take (i := 14) (s := 49) (v := .int .i64 (li : Int)) rfl rfl rfl (by kernel_rfl) (by kernel_rfl) (by kernel_rfl) (fun _ _ _ h => h) (fun W hW => ?q) HS0.out ?_
        case q =>
          obtain ⟨s0, s1, s2, s4⟩ := hW
          simp [execOp, go_sem, Act.put, Act.eval, s0, s1, s2, s4]
        simp only [Act.put, List.setIfInBounds_toArray, List.set_cons_zero, List.set_cons_succ]
        refine wpAnyH_all (rs := [2]) (by kernel_rfl) (by simp) ?_
        intro ii hii
        obtain rfl : ii = 2 := by simpa using hii
        refine op_call rfl rfl 82 #[.int .i64 rg] (by simp [execOp, go_sem, Act.put, Act.eval]) ?_
        refine (HJ1.out _).mono ?_
        rintro e z1 ⟨rfl, hbz⟩
        have HC1z := Lib.hid (HBcur.out.trans (hbz.mono HBcur.out.size))
        have HS1 := Lib.hid (HKC.out _ HC1z.out)
        clear hbz
        refine ⟨_, rfl, HS1.out, ?_⟩
        simp only [Act.put, List.setIfInBounds_toArray, List.set_cons_zero, List.set_cons_succ]
        refine read_take (i := 3) (s := 38) (v := .string ((⟨#[66, 65, 73, 76]⟩ : ByteArray) ++ S1)) rfl rfl rfl (by kernel_rfl) (by kernel_rfl) (by kernel_rfl) (fun _ _ _ h => h) (fun W hW => ?q) HS1.out ?_
        case q =>
          simp [execOp, go_sem, Act.put, Act.eval, hy0]
          try omega
        simp only [Act.put, List.setIfInBounds_toArray, List.set_cons_zero, List.set_cons_succ]
        refine wpAnyH_all (rs := [6]) (by kernel_rfl) (by simp) ?_
        intro ii hii
        obtain rfl : ii = 6 := by simpa using hii
        refine op_call rfl rfl 82 #[.int .i64 sl] (by simp [execOp, go_sem, Act.put, Act.eval]) ?_
        refine (HJ2.out _).mono ?_
        rintro e z1 ⟨rfl, hbz⟩
        have HC2z := Lib.hid (HC1z.out.trans (hbz.mono HC1z.out.size))
        have HS2 := Lib.hid (HKC.out _ HC2z.out)
        clear hbz
        refine ⟨_, rfl, HS2.out, ?_⟩
        simp only [Act.put, List.setIfInBounds_toArray, List.set_cons_zero, List.set_cons_succ]
        refine read_take (i := 7) (s := 42) (v := .string ((⟨#[66, 65, 73, 76]⟩ : ByteArray) ++ S1 ++ S2)) rfl rfl rfl (by kernel_rfl) (by kernel_rfl) (by kernel_rfl) (fun _ _ _ h => h) (fun W hW => ?q) HS2.out ?_
        case q =>
          simp [execOp, go_sem, Act.put, Act.eval, hy0]
          try omega
        simp only [Act.put, List.setIfInBounds_toArray, List.set_cons_zero, List.set_cons_succ]
        refine wpAnyH_all (rs := [10]) (by kernel_rfl) (by simp) ?_
        intro ii hii
        obtain rfl : ii = 10 := by simpa using hii
        refine op_call rfl rfl 83 #[.slice qA lq qc] (by simp [execOp, go_sem, Act.put, Act.eval]) ?_
        refine (HJ3.out _ HC2z.out).mono ?_
        rintro e z1 ⟨rfl, hbz⟩
        have HC3z := Lib.hid (HC2z.out.trans (hbz.mono HC2z.out.size))
        have HS3 := Lib.hid (HKC.out _ HC3z.out)
        clear hbz
        refine ⟨_, rfl, HS3.out, ?_⟩
        simp only [Act.put, List.setIfInBounds_toArray, List.set_cons_zero, List.set_cons_succ]
        refine read_take (i := 11) (s := 46) (v := .string ((⟨#[66, 65, 73, 76]⟩ : ByteArray) ++ S1 ++ S2 ++ S3)) rfl rfl rfl (by kernel_rfl) (by kernel_rfl) (by kernel_rfl) (fun _ _ _ h => h) (fun W hW => ?q) HS3.out ?_
        case q =>
          simp [execOp, go_sem, Act.put, Act.eval, hy0]
          try omega
        simp only [Act.put, List.setIfInBounds_toArray, List.set_cons_zero, List.set_cons_succ]
        refine wpAnyH_all (rs := [15]) (by kernel_rfl) (by simp) ?_
        intro ii hii
        obtain rfl : ii = 15 := by simpa using hii
        refine op_call rfl rfl 82 #[.int .i64 (li : Int)] (by simp [execOp, go_sem, Act.put, Act.eval]) ?_
        refine (HJ4.out _).mono ?_
        rintro e z1 ⟨rfl, hbz⟩
        have HC4z := Lib.hid (HC3z.out.trans (hbz.mono HC3z.out.size))
        have HS4 := Lib.hid (HKC.out _ HC4z.out)
        clear hbz
        refine ⟨_, rfl, HS4.out, ?_⟩
        simp only [Act.put, List.setIfInBounds_toArray, List.set_cons_zero, List.set_cons_succ]
        refine read_take (i := 16) (s := 51) (v := .string ((⟨#[66, 65, 73, 76]⟩ : ByteArray) ++ S1 ++ S2 ++ S3 ++ S4)) rfl rfl rfl (by kernel_rfl) (by kernel_rfl) (by kernel_rfl) (fun _ _ _ h => h) (fun W hW => ?q) HS4.out ?_
        case q =>
          simp [execOp, go_sem, Act.put, Act.eval, hy0]
          try omega
        simp only [Act.put, List.setIfInBounds_toArray, List.set_cons_zero, List.set_cons_succ]
        refine read_take (i := 17) (s := 5) (v := .string ((⟨#[66, 65, 73, 76]⟩ : ByteArray) ++ S1 ++ S2 ++ S3 ++ S4)) rfl rfl rfl (by kernel_rfl) (by kernel_rfl) (by kernel_rfl) (fun _ _ _ h => h) (fun W hW => ?q) HS4.out ?_
        case q =>
          obtain ⟨s0, s1, s2, s4⟩ := hW
          simp [execOp, go_sem, Act.put, Act.eval, s0, s1, s2, s4]
        simp only [Act.put, List.setIfInBounds_toArray, List.set_cons_zero, List.set_cons_succ]
        refine wpAnyH_done (by kernel_rfl) ?_ _
        simp only [Act.put, List.setIfInBounds_toArray, List.set_cons_zero, List.set_cons_succ, Exit.inBlock, Exit.then]
        go_at_K
        go_wp2_with fail
        go_meet
        exact ⟨rfl, HC4z.out⟩
      case rest =>
        obtain ⟨rfl, hbc⟩ := hcut
        obtain ⟨a0, ha0⟩ : ∃ a, bail ++ numM rg.toNat ++ numM sl.toNat ++ listM C.inp ++ numM li = a := ⟨_, rfl⟩
        have HA0 := Lib.hid ha0
        have hal : a0.length ≤ 5000024 := by
          have h1 := congrArg ByteArray.size HSS.out
          rw [ha0, bs_size] at h1
          simp only [ByteArray.size_append] at h1
          have h2 : bailB.size = 4 := rfl
          omega
        rw [HSS.out, ha0]
        have HBC := Lib.hid hbc
        have HBWC : Hid (Below w.heap.size w wc) := Lib.hid (HBW.out.trans (hbc.mono HBW.out.size))
        clear hbc ha0 hy0 hy1 hy2 hy3 hy4 hz1 hz2 hz3 hz4 HJ1 HJ2 HJ3 HJ4 HSS HKC HBcur HB10
        go_wp2_with fail
        go_loopw [5, 6] (fun v5 vi ws => ∃ (i : Nat) (q : List UInt8), i ≤ li ∧ vi = .int .i64 (i : Int) ∧ v5 = .string (bs q) ∧ q = a0 ++ (C.ins.take i).flatMap insM ∧ Below wc.heap.size wc ws) (fun _ vi _ => li - (intOf vi).toNat)
        case atStart => exact ⟨0, _, Nat.zero_le _, rfl, rfl, by simp, Below.refl _ _⟩
        case round =>
          obtain ⟨j, q, hj, rfl, rfl, hq, hbs⟩ := hrel
          have HQ := Lib.hid hq
          have HBS := Lib.hid hbs
          have HBRS := Lib.hid (HBC.out.trans (hbs.mono HBC.out.size))
          have HXS := Lib.hid (HXR.out.below HBRS.out HXR.out.lt)
          have HCS := Lib.hid (HCR.out.below HBRS.out (Nat.le_refl _))
          have hql : q.length ≤ 11000024 := by
            rw [hq, List.length_append]
            have := inss_len (C.ins.take j) (fun z hz => ins_len (HOK.out z (List.mem_of_mem_take hz)))
            rw [List.length_take] at this
            omega
          obtain ⟨t0, t1, t2, t3, t4⟩ := HXS.out.ats
          clear hq hbs q0 q1 q2 q3 q4
          by_cases hjl : j < li
          · obtain ⟨y, hy⟩ : ∃ y, C.ins[j]? = some y := ⟨_, List.getElem?_eq_getElem (by rw [HZ.out.ins]; exact hjl)⟩
            have HY := Lib.hid (HOK.out y (List.mem_of_getElem? hy))
            have HAN : Hid (a0 ++ (C.ins.take (j + 1)).flatMap insM = q ++ insM y) := Lib.hid (by
              rw [List.take_add_one, hy, List.flatMap_append, HQ.out, List.append_assoc]
              simp)
            obtain ⟨g, o, rfl, hg, d0, d1, d2, d3, d4, d5⟩ := HCS.out.1.at hy
            obtain ⟨yo, yd, ya, yb, yc, yn⟩ := y
            dsimp only at d0 d1 d2 d3 d4 d5
            have hl3 : (j : Int) < (li : Int) := by omega
            obtain ⟨Y, hYe⟩ : ∃ Y : Ins6, (⟨yo, yd, ya, yb, yc, yn⟩ : Ins6) = Y := ⟨_, rfl⟩
            have HYO : Hid (Y.op = yo ∧ Y.d = yd ∧ Y.n = yn ∧ (Value.agg #[.int .i64 yo, .int .i64 yd, .int .i64 ya, .int .i64 yb, .int .i64 yc, .int .i64 yn]) = insV Y) := Lib.hid (by rw [← hYe]; exact ⟨rfl, rfl, rfl, rfl⟩)
            rw [hYe] at HY HAN
            obtain ⟨hy1, hy2, hy3, hy4, hy5, hy6⟩ := HY.out
            rw [HYO.out.1] at hy4 hy5 hy6
            rw [HYO.out.2.2.1] at hy2 hy3
            have HRD : Hid (∀ W, Calls Try.prog 65 #[.agg #[.int .i64 yo, .int .i64 yd, .int .i64 ya, .int .i64 yb, .int .i64 yc, .int .i64 yn]] W (fun e w' => ∃ v, e = .returned (.tuple #[v, .bool true]) ∧ Ints w' v (readsI Y) ∧ Below W.heap.size W w')) := Lib.hid (fun W => by
              rw [HYO.out.2.2.2]
              have h1 := kreads_any W Y
              unfold KrdPost at h1
              rw [show decide (0 ≤ nrd Y.op) = true from decide_eq_true HY.out.2.2.2.2.2] at h1
              exact h1)
            obtain ⟨v1, hv1⟩ : ∃ W, wr.alloc (.cells #[.int .i64 yo, .int .i64 yd, .int .i64 ya, .int .i64 yb, .int .i64 yc, .int .i64 yn] 112) = W := ⟨_, rfl⟩
            obtain ⟨p, hp⟩ : ∃ p, wr.heap.size = p := ⟨_, rfl⟩
            have HBV : Hid (Below wc.heap.size wc v1) := Lib.hid (HBS.out.trans (by rw [← hv1]; exact (below_new wr _).mono HBS.out.size))
            have HVC : Hid (∀ V, Below v1.heap.size v1 V → V.cell? ⟨p, 0, none⟩ = some (.int .i64 yo) ∧ V.cell? ⟨p, 1, none⟩ = some (.int .i64 yd) ∧ V.cell? ⟨p, 2, none⟩ = some (.int .i64 ya) ∧ V.cell? ⟨p, 3, none⟩ = some (.int .i64 yb) ∧ V.cell? ⟨p, 4, none⟩ = some (.int .i64 yc) ∧ V.cell? ⟨p, 5, none⟩ = some (.int .i64 yn)) := Lib.hid (fun V hV => by
              have h1 : v1.heap[p]? = some (.cells #[.int .i64 yo, .int .i64 yd, .int .i64 ya, .int .i64 yb, .int .i64 yc, .int .i64 yn] 112 (0, 0)) := by
                rw [← hv1, ← hp]; exact heap_alloc_new wr _
              have h2 := (hV.block p (lt_of_block h1)).trans h1
              refine ⟨?_, ?_, ?_, ?_, ?_, ?_⟩ <;> simp [World.cell?, h2])
            have HBK : Hid (∀ V, Below v1.heap.size v1 V → Below wc.heap.size wc V) := Lib.hid (fun V hV => HBV.out.trans (hV.mono HBV.out.size))
            obtain ⟨e0, e1, e2, e3, e4, e5⟩ := HVC.out v1 (Below.refl _ _)
            have hno := num_len yo.toNat (by omega)
            have hz0 : (bs q).size + (bs (numM yo.toNat)).size ≤ 9223372036854775807 := by rw [bs_size, bs_size]; omega
            clear hy hYe hy1
            go_wp2_with fail
            refine (HJ.out yo (by omega) _).mono ?_
            rintro e v2 ⟨rfl, hb2⟩
            have HB2 := Lib.hid hb2
            obtain ⟨f0, f1, f2, f3, f4, f5⟩ := HVC.out v2 hb2
            obtain ⟨q1, hq1⟩ : ∃ l, q ++ numM yo.toNat = l := ⟨_, rfl⟩
            have HQ1 := Lib.hid hq1
            have hq1l : q1.length ≤ 11000029 := by rw [← hq1, List.length_append]; omega
            have hbq1 : bs q ++ bs (numM yo.toNat) = bs q1 := by rw [bs_app, hq1]
            clear hb2 hv1 e0 e1 e2 e3 e4 e5 hq1 t0 t1 t2 t3 t4
            by_cases h30 : yo = 30
            case' pos =>
              have HQ2 : Hid (∃ q2, bs q ++ bs (numM yo.toNat) = bs q2 ∧ q2.length ≤ 11000034 ∧ q2 ++ putM (readsI Y) = q1 ++ putM (fldsI Y)) := Lib.hid ⟨q1, hbq1, by omega, by
                unfold fldsI; rw [HYO.out.1, if_pos h30, List.nil_append]⟩
              obtain ⟨q2, hq2, hq2l, hq2f⟩ := HQ2.out
              have HF2 := Lib.hid hq2f
              have HB3 := HB2
              have h30b : (yo != 30) = false := by simp [h30]
              clear hq2f HQ2 h30 hbq1
              go_wp2_with fail
              try rw [hq2]
              clear hq2 h30b
            case' neg =>
              have h30b : (yo != 30) = true := by simpa using h30
              have hdy : 0 ≤ yd ∧ yd < 34359738368 := HY.out.1 yd (by unfold fldsI; rw [HYO.out.1, if_neg h30, HYO.out.2.1]; simp)
              have hnd := num_len yd.toNat (by omega)
              have hz1 : (bs q).size + (bs (numM yo.toNat)).size + (bs (numM yd.toNat)).size ≤ 9223372036854775807 := by rw [bs_size, bs_size, bs_size]; omega
              have HQ2 : Hid (∃ q2, bs q ++ bs (numM yo.toNat) ++ bs (numM yd.toNat) = bs q2 ∧ q2.length ≤ 11000034 ∧ q2 ++ putM (readsI Y) = q1 ++ putM (fldsI Y)) := Lib.hid ⟨q1 ++ numM yd.toNat, by rw [hbq1, bs_app], by rw [List.length_append]; omega, by
                unfold fldsI; rw [HYO.out.1, if_neg h30, put_app, HYO.out.2.1, put_one, List.append_assoc]⟩
              clear hbq1 h30
              go_wp2_with fail
              refine (HJ.out yd hdy _).mono ?_
              rintro e v3 ⟨rfl, hb3⟩
              have HB3 := Lib.hid (HB2.out.trans (hb3.mono HB2.out.size))
              obtain ⟨q2, hq2, hq2l, hq2f⟩ := HQ2.out
              have HF2 := Lib.hid hq2f
              obtain ⟨f0, f1, f2, f3, f4, f5⟩ := HVC.out v3 HB3.out
              clear hq2f HQ2 hb3
              go_wp2_with fail
              try rw [hq2]
              clear hq2 hz1 h30b hnd
            all_goals
              refine (HRD.out _).mono ?_
              rintro e v4 ⟨rv, rfl, hri, hb4⟩
              have HRI := Lib.hid hri
              obtain ⟨rA, rc, rfl, -, hrc⟩ := ints_form hri
              obtain ⟨m, hm⟩ : ∃ m, (readsI Y).length = m := ⟨_, rfl⟩
              have HRM := Lib.hid hm
              have hm3 : m ≤ 3 := by rw [← hm]; exact reads3 Y
              rw [hm] at HRI ⊢
              have HB4 := Lib.hid (HB3.out.trans (hb4.mono HB3.out.size))
              have hz4 : (bs q2).size ≤ 11000034 := by rw [bs_size]; exact hq2l
              clear hri hb4 hm
              go_wp2_with fail
              go_loopw [5, 10] (fun v5 vk wk => ∃ (k : Nat) (r : List UInt8), k ≤ m ∧ vk = .int .i64 (k : Int) ∧ v5 = .string (bs r) ∧ r = q2 ++ putM ((readsI Y).take k) ∧ Below v4.heap.size v4 wk) (fun _ vk _ => m - (intOf vk).toNat)
              case atStart => exact ⟨0, _, Nat.zero_le _, rfl, rfl, by simp [putM], Below.refl _ _⟩
              case round =>
                obtain ⟨k, r, hk, rfl, rfl, hr5, hbk⟩ := hrel
                have HR5 := Lib.hid hr5
                have HBK2 := Lib.hid hbk
                have HB5 := Lib.hid (HB4.out.trans (hbk.mono HB4.out.size))
                have HRK := Lib.hid (HRI.out.below hbk (Nat.le_refl _))
                have hRD : ∀ z ∈ readsI Y, 0 ≤ z ∧ z < 34359738368 := fun z hz => HY.out.1 z (by unfold fldsI; exact List.mem_append_right _ hz)
                have hrl : r.length ≤ 11000049 := by
                  rw [hr5, List.length_append]
                  have h2 := put_len ((readsI Y).take k) (fun z hz => hRD z (List.mem_of_mem_take hz))
                  rw [List.length_take] at h2
                  omega
                obtain ⟨f0, f1, f2, f3, f4, f5⟩ := HVC.out _ HB5.out
                clear hr5 hbk
                by_cases hkm : k < m
                · obtain ⟨z, hz⟩ : ∃ z, (readsI Y)[k]? = some z := ⟨_, List.getElem?_eq_getElem (by rw [HRM.out]; exact hkm)⟩
                  have hzr := hRD z (List.mem_of_getElem? hz)
                  obtain ⟨gr, gro, rfl, hgr, cr⟩ := ints_at HRK.out hz
                  have HNX : Hid (r ++ numM z.toNat = q2 ++ putM ((readsI Y).take (k + 1))) := Lib.hid (by
                    rw [HR5.out, List.take_add_one, hz, put_app, List.append_assoc]
                    congr 2
                    show _ = putM [z]
                    rw [put_one])
                  have hsz : (bs r).size + (bs (numM z.toNat)).size ≤ 9223372036854775807 := by
                    rw [bs_size, bs_size]
                    have := num_len z.toNat (by omega)
                    omega
                  have hk2 : (k : Int) < (m : Int) := by omega
                  clear hz hRD
                  go_wp2_with fail
                  refine (HJ.out z hzr _).mono ?_
                  rintro e v6 ⟨rfl, hb6⟩
                  have HB6 := Lib.hid (HBK2.out.trans (hb6.mono HBK2.out.size))
                  clear hb6
                  go_wp2_with fail
                  go_roundw
                  case rel => exact ⟨k + 1, _, by omega, by go_num, by rw [bs_app], HNX.out, HB6.out⟩
                  case measure => simp [intOf]; omega
                · have hk2 : ¬ (k : Int) < (m : Int) := by omega
                  have hin2 : (readsI Y).take k = readsI Y := List.take_of_length_le (by rw [HRM.out]; omega)
                  have HRF : Hid (r = q ++ numM yo.toNat ++ putM (fldsI Y)) := Lib.hid (by rw [HR5.out, hin2, HF2.out, ← HQ1.out])
                  obtain ⟨hn, hhn⟩ : ∃ h, hasNB yo = h := ⟨_, rfl⟩
                  have HHN := Lib.hid hhn
                  have HHA : Hid (∀ W, Calls Try.prog 84 #[.int .i64 yo] W fun e w' => e = .returned (.bool hn) ∧ w' = W) := Lib.hid (fun W => by rw [← hhn]; exact jhas_any yo W)
                  have HSI : Hid (∀ W, Calls Try.prog 85 #[.int .i64 yn] W fun e w' => e = .returned (.int .i64 (signM yn)) ∧ w' = W) := Lib.hid (fun W => jsig_any yn (by omega) (by omega) W)
                  have hsb := sign_bnd hy2 hy3
                  obtain ⟨sg, hsg⟩ : ∃ s, signM yn = s := ⟨_, rfl⟩
                  have HSG := Lib.hid hsg
                  rw [hsg] at HSI hsb
                  have HBE5 := Lib.hid (HBK.out _ HB5.out)
                  clear hhn hsg hin2 hRD
                  go_wp2_with fail
                  refine (HHA.out _).mono ?_
                  rintro e v6 ⟨rfl, rfl⟩
                  cases hn with
                  | false =>
                    have HFIN : Hid (r = a0 ++ (C.ins.take (j + 1)).flatMap insM) := Lib.hid (by
                      rw [HAN.out, HRF.out]
                      unfold insM
                      rw [HYO.out.1, HHN.out]
                      simp)
                    go_wp2_with fail
                    go_roundw
                    case rel => exact ⟨j + 1, _, by omega, by go_num, rfl, HFIN.out, HBE5.out⟩
                    case measure => simp [intOf]; omega
                  | true =>
                    have HFIN : Hid (r ++ numM sg.toNat = a0 ++ (C.ins.take (j + 1)).flatMap insM) := Lib.hid (by
                      rw [HAN.out, HRF.out]
                      unfold insM
                      rw [HYO.out.1, HHN.out, HYO.out.2.2.1, HSG.out]
                      simp)
                    have hsz : (bs r).size + (bs (numM sg.toNat)).size ≤ 9223372036854775807 := by
                      rw [bs_size, bs_size]
                      have := num_len sg.toNat (by omega)
                      omega
                    go_wp2_with fail
                    refine (HSI.out _).mono ?_
                    rintro e v7 ⟨rfl, rfl⟩
                    go_wp2_with fail
                    refine (HJ.out sg hsb _).mono ?_
                    rintro e v8 ⟨rfl, hb8⟩
                    have HB8 := Lib.hid (HBE5.out.trans (hb8.mono HBE5.out.size))
                    clear hb8
                    go_wp2_with fail
                    go_roundw
                    case rel => exact ⟨j + 1, _, by omega, by go_num, by rw [bs_app], HFIN.out, HB8.out⟩
                    case measure => simp [intOf]; omega
          · have hl3 : ¬ (j : Int) < (li : Int) := by omega
            have hin : C.ins.take j = C.ins := List.take_of_length_le (by rw [HZ.out.ins]; omega)
            have hsz : (bs q).size + (bs (listM C.outs)).size ≤ 9223372036854775807 := by
              rw [bs_size, bs_size]
              unfold listM
              rw [List.length_append, HZ.out.outs]
              have h1 := num_len lo (by omega)
              have h2 := put_len C.outs HOU.out
              rw [HZ.out.outs] at h2
              omega
            have HFIN : Hid (bs q ++ bs (listM C.outs) = bs (encM C)) := Lib.hid (by
              rw [bs_app, HE.out.2, HQ.out, hin, ← HA0.out]
              unfold bytesM
              rw [HZ.out.regs, HZ.out.slots, HZ.out.ins])
            have HBF := Lib.hid (HBWC.out.trans (HBS.out.mono HBWC.out.size))
            clear hin
            go_wp2_with fail
            refine (jlist_any _ oA lo oc C.outs HZ.out.outs ho6 HOU.out HCS.out.2.1).mono ?_
            rintro e w9 ⟨rfl, hb9⟩
            have HB9 := Lib.hid (HBF.out.trans (hb9.mono HBF.out.size))
            clear hb9
            go_wp2_with fail
            refine bodyPost_ret (v := .tuple #[.string (bs q ++ bs (listM C.outs)), .int .i64 0]) (by simp [results, Try.results42, go_sem]) rfl ⟨by rw [HFIN.out, HE.out.1], HB9.out⟩
end Go.Proofs.Ytcphjehjdhgheaa.Nt
