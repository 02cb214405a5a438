/- The document's bytes of numbers and of code. Conditions: as each says. -/
import Derived.Test.YtcphjehjdhgheaaImD0
import Derived.Lib.SlBytesRow
import Derived.Deep.RegionLaw
namespace Go.Proofs.Ytcphjehjdhgheaa.Nt
open Go.ChangeShapes Go.WideShapes Go.ChangeAt Go.RowKit Go.Proofs.Ytcphjehjdhgheaa.Tr
set_option linter.unusedVariables false
set_option linter.unusedSimpArgs false

/-- The string of bytes. -/
def bs (l : List UInt8) : ByteArray := ⟨l.toArray⟩
theorem bs_app (l m : List UInt8) : bs l ++ bs m = bs (l ++ m) := by unfold bs; rw [ByteArray.mk_append_mk]; first | done | rfl | simp
theorem bs_size (l : List UInt8) : (bs l).size = l.length := by simp [bs, ByteArray.size]
theorem add_bs (l m : List UInt8) (w : World) (h : l.length + m.length ≤ 1000000000) : (binOp .add 9 (.string (bs l)) (.string (bs m))).run Try.prog w = .ok (.string (bs (l ++ m))) w := by
  have h2 : (bs l).size + (bs m).size ≤ 9223372036854775807 := by rw [bs_size, bs_size]; omega
  rw [← bs_app]
  simp [go_sem, h2]
theorem conv1 (w : World) (g : Nat) (k : Int) (c : UInt8) (h : w.cell? ⟨g, 0, none⟩ = some (.int .u8 k)) (hk : k = (c.toNat : Int)) : (convert 76 9 (.slice (some ⟨g, 0, none⟩) 1 1)).run Try.prog w = .ok (.string (bs [c])) w := by
  have := Lib.run_convert_whole (P := Try.prog) w 76 5 9 Try.underlying76 Try.underlying5 Try.underlying9 g 0 ⟨#[c]⟩ (fun i hi => by
    have : i = 0 := by simp [ByteArray.size] at hi; omega
    subst this
    rw [h, hk]; rfl) 1
  exact this
theorem jhas_any (op : Int) (w : World) : Calls Try.prog 84 #[.int .i64 op] w fun e w' => e = .returned (.bool (hasNB op)) ∧ w' = w := by
  have HH : Hid (hasNB op = decide (op = 3 ∨ op = 1 ∨ op = 2 ∨ op = 21 ∨ op = 30)) := Lib.hid (by unfold hasNB; by_cases h3 : op = 3 <;> by_cases h1 : op = 1 <;> by_cases h2 : op = 2 <;> by_cases h21 : op = 21 <;> by_cases h30 : op = 30 <;> simp_all)
  by_cases h3 : op = 3
  · subst h3
    go_enter Try.func84, Try.ntmps84
    go_wp2
    go_ret
    exact ⟨ret_bool (by rw [HH.out]; decide), rfl⟩
  by_cases h1 : op = 1
  · subst h1
    go_enter Try.func84, Try.ntmps84
    go_wp2
    go_ret
    exact ⟨ret_bool (by rw [HH.out]; decide), rfl⟩
  by_cases h2 : op = 2
  · subst h2
    go_enter Try.func84, Try.ntmps84
    go_wp2
    go_ret
    exact ⟨ret_bool (by rw [HH.out]; decide), rfl⟩
  by_cases h21 : op = 21
  · subst h21
    go_enter Try.func84, Try.ntmps84
    go_wp2
    go_ret
    exact ⟨ret_bool (by rw [HH.out]; decide), rfl⟩
  by_cases h30 : op = 30
  · subst h30
    go_enter Try.func84, Try.ntmps84
    go_wp2
    go_ret
    exact ⟨ret_bool (by rw [HH.out]; decide), rfl⟩
  have HF : Hid (hasNB op = false) := Lib.hid (by rw [HH.out]; simp [h3, h1, h2, h21, h30])
  have b3 : (op == 3) = false := by simpa using h3
  have b1 : (op == 1) = false := by simpa using h1
  have b2 : (op == 2) = false := by simpa using h2
  have b21 : (op == 21) = false := by simpa using h21
  have b30 : (op == 30) = false := by simpa using h30
  clear h3 h1 h2 h21 h30
  go_enter Try.func84, Try.ntmps84
  go_wp2
  go_ret
  exact ⟨ret_bool HF.out.symm, rfl⟩
theorem jsig_any (n : Int) (h1 : -1000000000000 ≤ n) (h2 : n ≤ 1000000000000) (w : World) : Calls Try.prog 85 #[.int .i64 n] w fun e w' => e = .returned (.int .i64 (signM n)) ∧ w' = w := by
  by_cases hn : n < 0
  · have HE : Hid (signM n = -2 * n - 1) := Lib.hid (by unfold signM; rw [if_pos hn])
    have h3 : ¬ (0 ≤ n) := by omega
    go_enter Try.func85, Try.ntmps85
    go_wp2
    go_ret
    exact ⟨by rw [HE.out]; go_num, rfl⟩
  · have HE : Hid (signM n = 2 * n) := Lib.hid (by unfold signM; rw [if_neg hn])
    have h3 : 0 ≤ n := by omega
    go_enter Try.func85, Try.ntmps85
    go_wp2
    go_ret
    exact ⟨by rw [HE.out]; go_num, rfl⟩
theorem step_callg {P : Program} {ops : Array Oper} {o : Oper} {a : Act} {w : World} {K : Act → World → Prop} {Q : Exit → Act → World → Prop} {E : Prop} (hw : Region.wanted o (yielded ops a.tmps) = true) (f : Nat) (args : Array Value) (hr : (execOp a.eval o).run P w = .ok (.enter f args) w)
    (h : Calls P f args w fun e w' => ∃ v, e = .returned v ∧ K (a.put o.dst v) w') : if Region.wanted o (yielded ops a.tmps) = true then Oper.wp P o a w K Q else E := by
  rw [if_pos hw]
  unfold Oper.wp
  rw [hr]
  refine Calls.mono h fun e w' he => ?_
  obtain ⟨v, rfl, hk⟩ := he
  exact hk
def NumPost (w : World) (n : Nat) (e : Ending) (w' : World) : Prop := e = .returned (.string (bs (numM n))) ∧ Below w.heap.size w w'
set_option maxRecDepth 100000 in
set_option maxHeartbeats 4000000 in
theorem jnum_any : ∀ (N n : Nat), n ≤ N → n < 34359738368 → ∀ w, Calls Try.prog 82 #[.int .i64 (n : Int)] w (NumPost w n) := by
  intro N
  induction N using Nat.strongRecOn with
  | _ N ih =>
  intro n hn hb w
  by_cases h1 : n < 128
  · have HM : Hid (numM n = [UInt8.ofNat n]) := Lib.hid (numM_lt h1)
    have h2 : (n : Int) < 128 := by omega
    have hcv := conv1 (w.alloc (.cells #[.int .u8 (n : Int)] 5)) w.heap.size (n : Int) (UInt8.ofNat n) (by simp) (by rw [end_num n h1])
    clear ih
    go_enter Try.func82, Try.ntmps82
    go_wp2
    refine bodyPost_ret (v := .string (bs [UInt8.ofNat n])) (by simp [results, Try.results82, go_sem]) rfl ⟨by rw [HM.out], below_new _ _⟩
  · have HM : Hid (numM n = UInt8.ofNat (n % 128 + 128) :: numM (n / 128)) := Lib.hid (numM_ge (by omega))
    have HREC : Hid (∀ W, Calls Try.prog 82 #[.int .i64 ((n / 128 : Nat) : Int)] W (fun e w' => e = .returned (.string (bs (numM (n / 128)))) ∧ Below W.heap.size W w')) := Lib.hid (fun W => ih (n / 128) (by omega) (n / 128) (Nat.le_refl _) (by omega) W)
    have h2 : ¬ (n : Int) < 128 := by omega
    have HLN : Hid ((numM (n / 128)).length ≤ 5) := Lib.hid (num_len _ (by omega))
    obtain ⟨r, hr⟩ : ∃ r, n % 128 = r := ⟨_, rfl⟩
    have hr8 : r < 128 := by omega
    obtain ⟨d, hd⟩ : ∃ d, n / 128 = d := ⟨_, rfl⟩
    have hd8 : d < 34359738368 := by omega
    have hq1 : ((n : Int).tmod 128) = (r : Int) := by rw [Int.tmod_eq_emod_of_nonneg (by omega)]; omega
    have hq2 : IntKind.i64.wrap ((r : Int) + 128) = (r : Int) + 128 := by simp [IntKind.wrap, IntKind.bits, IntKind.signed]; omega
    have hq3 : IntKind.u8.wrap ((r : Int) + 128) = (r : Int) + 128 := by simp [IntKind.wrap, IntKind.bits, IntKind.signed]; omega
    have hq4 : (n : Int) / 128 = (d : Int) := by omega
    have hq5 : IntKind.i64.wrap (d : Int) = (d : Int) := by simp [IntKind.wrap, IntKind.bits, IntKind.signed]; omega
    have hkk : (r : Int) + 128 = ((UInt8.ofNat (n % 128 + 128)).toNat : Int) := by rw [low_num]; omega
    rw [hr] at hkk HM
    obtain ⟨c, hc⟩ : ∃ c, UInt8.ofNat (r + 128) = c := ⟨_, rfl⟩
    rw [hc] at hkk HM
    rw [hd] at HM HREC HLN
    have hcv : (convert 76 9 (.slice (some ⟨w.heap.size, 0, none⟩) 1 1)).run Try.prog (w.alloc (.cells #[.int .u8 ((r : Int) + 128)] 5)).drew = .ok (.string (bs [c])) (w.alloc (.cells #[.int .u8 ((r : Int) + 128)] 5)).drew := conv1 _ _ _ _ (by simp) hkk
    have HCV : Hid (∀ W, W.cell? ⟨w.heap.size, 0, none⟩ = some (.int .u8 ((r : Int) + 128)) → (convert 76 9 (.slice (some ⟨w.heap.size, 0, none⟩) 1 1)).run Try.prog W = .ok (.string (bs [c])) W) := Lib.hid (fun W h => conv1 W _ _ c h hkk)
    have HCV2 : Hid (∀ W : World, (convert 76 9 (.slice (some ⟨W.heap.size, 0, none⟩) 1 1)).run Try.prog (W.alloc (.cells #[.int .u8 ((r : Int) + 128)] 5)) = .ok (.string (bs [c])) (W.alloc (.cells #[.int .u8 ((r : Int) + 128)] 5))) := Lib.hid (fun W => conv1 _ _ _ c (by simp) hkk)
    have HBd : Hid (Below w.heap.size w w.drew) := Lib.hid (Below.refl w.heap.size w).drew
    have hsz : (bs [c]).size + (bs (numM d)).size ≤ 9223372036854775807 := by rw [bs_size, bs_size]; have := HLN.out; simp; omega
    have hsz2 : ¬ (9223372036854775807 < (bs [c]).size + (bs (numM d)).size) := by omega
    have HBcur : Hid (Below w.heap.size w (w.alloc (.cells #[.int .u8 ((r : Int) + 128)] 5)).drew) := Lib.hid (below_new w _).drew
    clear ih hkk hr hd hc
    go_enter Try.func82, Try.ntmps82
    go_wp2
    go_region_law (first
      | (refine step_callg (by rfl) 82 #[.int .i64 (d : Int)] (by simp [execOp, go_sem, Act.put, Act.eval, hq4, hq5]) ?_; refine (HREC.out _).mono ?_; rintro e z1 ⟨rfl, hbz⟩; have HZ1 := Lib.hid (HBcur.out.trans (hbz.mono HBcur.out.size)); have hcz := HCV.out z1 ((hbz.cell (p := ⟨w.heap.size, 0, none⟩) (by simp)).trans (by simp)); clear hbz; refine ⟨_, rfl, ?_⟩)
      | (refine step_callg (by rfl) 82 #[.int .i64 (d : Int)] (by simp [execOp, go_sem, Act.put, Act.eval, hq4, hq5]) ?_; refine (HREC.out _).mono ?_; rintro e z1 ⟨rfl, hbz⟩; have HZ1 := Lib.hid (HBd.out.trans (hbz.mono HBd.out.size)); have hcz := HCV2.out z1; clear hbz; refine ⟨_, rfl, ?_⟩))
    all_goals
      go_wp2
      refine bodyPost_ret (v := .string (bs [c] ++ bs (numM d))) (by simp [results, Try.results82, go_sem]) rfl ⟨by rw [HM.out, bs_app]; rfl, by first | exact HZ1.out | exact HZ1.out.alloc HZ1.out.size _⟩
end Go.Proofs.Ytcphjehjdhgheaa.Nt
