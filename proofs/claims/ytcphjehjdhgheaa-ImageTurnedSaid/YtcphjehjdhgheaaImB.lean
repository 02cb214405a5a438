/- Numbers, one behind the other, into a writer; the registers that an instruction names. Conditions: as each says. -/
import Derived.Test.YtcphjehjdhgheaaImA
import Derived.Test.YtcphjehjdhgheaaKcC
namespace Go.Proofs.Ytcphjehjdhgheaa.Nt
open Go.ChangeShapes Go.WideShapes Go.ChangeAt Go.RowKit Go.Proofs.Ytcphjehjdhgheaa.Tr
set_option linter.unusedVariables false
set_option linter.unusedSimpArgs false

theorem ihas_any (op : Int) (w : World) : Calls Try.prog 79 #[.int .i64 op] w fun e w' => e = .returned (.bool (hasNB op)) ∧ w' = w := by
  have HH : Hid (hasNB op = decide (op = 3 ∨ op = 1 ∨ op = 2 ∨ op = 21 ∨ op = 30)) := Lib.hid (by unfold hasNB; by_cases h3 : op = 3 <;> by_cases h1 : op = 1 <;> by_cases h2 : op = 2 <;> by_cases h21 : op = 21 <;> by_cases h30 : op = 30 <;> simp_all)
  by_cases h3 : op = 3
  · subst h3
    go_enter Try.func79, Try.ntmps79
    go_wp2
    go_ret
    exact ⟨ret_bool (by rw [HH.out]; decide), rfl⟩
  by_cases h1 : op = 1
  · subst h1
    go_enter Try.func79, Try.ntmps79
    go_wp2
    go_ret
    exact ⟨ret_bool (by rw [HH.out]; decide), rfl⟩
  by_cases h2 : op = 2
  · subst h2
    go_enter Try.func79, Try.ntmps79
    go_wp2
    go_ret
    exact ⟨ret_bool (by rw [HH.out]; decide), rfl⟩
  by_cases h21 : op = 21
  · subst h21
    go_enter Try.func79, Try.ntmps79
    go_wp2
    go_ret
    exact ⟨ret_bool (by rw [HH.out]; decide), rfl⟩
  by_cases h30 : op = 30
  · subst h30
    go_enter Try.func79, Try.ntmps79
    go_wp2
    go_ret
    exact ⟨ret_bool (by rw [HH.out]; decide), rfl⟩
  have HF : Hid (hasNB op = false) := Lib.hid (by rw [HH.out]; simp [h3, h1, h2, h21, h30])
  have b3 : (op == 3) = false := by simpa using h3
  have b1 : (op == 1) = false := by simpa using h1
  have b2 : (op == 2) = false := by simpa using h2
  have b21 : (op == 21) = false := by simpa using h21
  have b30 : (op == 30) = false := by simpa using h30
  clear h3 h1 h2 h21 h30
  go_enter Try.func79, Try.ntmps79
  go_wp2
  go_ret
  exact ⟨ret_bool HF.out.symm, rfl⟩
theorem isig_any (n : Int) (h1 : -1000000000000 ≤ n) (h2 : n ≤ 1000000000000) (w : World) : Calls Try.prog 80 #[.int .i64 n] w fun e w' => e = .returned (.int .i64 (signM n)) ∧ w' = w := by
  by_cases hn : n < 0
  · have HE : Hid (signM n = -2 * n - 1) := Lib.hid (by unfold signM; rw [if_pos hn])
    go_enter Try.func80, Try.ntmps80
    go_wp2
    go_ret
    exact ⟨by rw [HE.out]; go_num, rfl⟩
  · have HE : Hid (signM n = 2 * n) := Lib.hid (by unfold signM; rw [if_neg hn])
    go_enter Try.func80, Try.ntmps80
    go_wp2
    go_ret
    exact ⟨by rw [HE.out]; go_num, rfl⟩
theorem num_len : ∀ (n : Nat), n < 34359738368 → (numM n).length ≤ 5 := by
  intro n h
  by_cases h1 : n < 128
  · rw [numM_lt h1]; simp
  rw [numM_ge (by omega)]
  by_cases h2 : n / 128 < 128
  · rw [numM_lt h2]; simp
  rw [numM_ge (by omega)]
  by_cases h3 : n / 128 / 128 < 128
  · rw [numM_lt h3]; simp
  rw [numM_ge (by omega)]
  by_cases h4 : n / 128 / 128 / 128 < 128
  · rw [numM_lt h4]; simp
  rw [numM_ge (by omega), numM_lt (by omega)]
  simp
theorem put_len : ∀ (l : List Int), (∀ k ∈ l, 0 ≤ k ∧ k < 34359738368) → (putM l).length ≤ 5 * l.length := by
  intro l
  induction l with
  | nil => intro _; simp [putM]
  | cons k r ih =>
    intro h
    rw [put_cons, List.length_append, List.length_cons]
    have h1 := num_len k.toNat (by have := h k (List.mem_cons_self ..); omega)
    have h2 := ih (fun x hx => h x (List.mem_cons_of_mem _ hx))
    omega
theorem wt_trans {B b : Nat} {l m : List UInt8} {u v w : World} (h : WTo B b l u v) (k : WTo B b m v w) : WTo B b m u w := ⟨k.1, h.2.1.trans k.2.1, h.2.2.trans (k.2.2.mono (Nat.le_refl _))⟩
theorem WTo.n {B b : Nat} {l : List UInt8} {u v : World} (h : WTo B b l u v) : WrN B b l v := h.1.n
theorem low_num (n : Nat) : ((UInt8.ofNat (n % 128 + 128)).toNat : Int) = ((n % 128 + 128 : Nat) : Int) := by
  rw [UInt8.toNat_ofNat']
  omega
theorem end_num (n : Nat) (h : n < 128) : ((UInt8.ofNat n).toNat : Int) = (n : Int) := by
  rw [UInt8.toNat_ofNat']
  omega
set_option maxRecDepth 100000 in
set_option maxHeartbeats 4000000 in
theorem iput_any (B b : Nat) (l : List UInt8) (w : World) (A : Option Addr) (n c : Nat) (ks : List Int) (h : WrB B b l w) (hBw : B ≤ w.heap.size) (hn : ks.length = n) (hm : n ≤ maxLen) (hks : ∀ k ∈ ks, 0 ≤ k ∧ k < 34359738368)
    (hI : ∀ V, KpW w V → Below B w V → Ints V (.slice A n c) ks) (hlen : l.length + 5 * n ≤ 900000000) :
    Calls Try.prog 77 #[.pointer (some ⟨b, 0, none⟩), .slice A n c] w fun e w' => e = .returned (.tuple #[]) ∧ WTo B b (l ++ putM ks) w w' := by
  unfold maxLen at hm
  have HN := Lib.hid hn
  have HK := Lib.hid hks
  have HI := Lib.hid hI
  have HW := Lib.hid h
  clear hn hks hI h
  go_enter Try.func77, Try.ntmps77
  go_wp2_with fail
  go_loopw [5, 8] (fun v5 vi wr => ∃ (i : Nat) (v : Value), i ≤ n ∧ vi = .int .i64 (i : Int) ∧ v = v5 ∧ WTo B b (l ++ putM (ks.take i)) w wr) (fun _ vi _ => n - (intOf vi).toNat)
  case atStart => exact ⟨0, _, Nat.zero_le _, rfl, rfl, by simpa [putM] using HW.out, KpW.refl _, Below.refl _ _⟩
  case round =>
    obtain ⟨i, v, hi, rfl, rfl, hw⟩ := hrel
    have HWT := Lib.hid hw
    clear hw
    by_cases hlt : i < n
    · obtain ⟨k, hk⟩ : ∃ k, ks[i]? = some k := ⟨_, List.getElem?_eq_getElem (by rw [HN.out]; exact hlt)⟩
      have hk2 := HK.out k (List.mem_of_getElem? hk)
      obtain ⟨kn, rfl⟩ : ∃ m : Nat, k = (m : Int) := ⟨k.toNat, by omega⟩
      obtain ⟨g, o, rfl, hg, c0⟩ := ints_at (HI.out wr HWT.out.2.1 HWT.out.2.2) hk
      obtain ⟨pre, hpre⟩ : ∃ p, l ++ putM (ks.take i) = p := ⟨_, rfl⟩
      have HPN : Hid (l ++ putM (ks.take (i + 1)) = pre ++ numM kn) := Lib.hid (by
        rw [List.take_add_one, hk, put_app, ← hpre, List.append_assoc]
        congr 2
        show putM [(kn : Int)] = _
        rw [put_one]; rfl)
      have HPL : Hid (pre.length + 5 ≤ 900000000) := Lib.hid (by
        rw [← hpre, List.length_append]
        have h1 := put_len (ks.take i) (fun x hx => HK.out x (List.mem_of_mem_take hx))
        rw [List.length_take] at h1
        omega)
      have HNL := Lib.hid (num_len kn (by omega))
      rw [hpre] at HWT
      have hl2 : (i : Int) < (n : Int) := by omega
      clear hpre hk
      go_wp2_with fail
      go_loopw [5] (fun v5 ws => ∃ (m : Nat) (q : List UInt8), v5 = .int .i64 (m : Int) ∧ m ≤ kn ∧ q ++ numM m = pre ++ numM kn ∧ WTo B b q w ws) (fun v5 _ => (intOf v5).toNat)
      case atStart => exact ⟨kn, pre, rfl, Nat.le_refl _, rfl, HWT.out⟩
      case round =>
        obtain ⟨m, q, rfl, hmk, hq, hws⟩ := hrel
        have HWS := Lib.hid hws
        have hql : q.length ≤ 900000000 := by
          have := congrArg List.length hq
          rw [List.length_append, List.length_append] at this
          have h1 := HPL.out
          have h2 := HNL.out
          omega
        have HQ := Lib.hid hq
        have hsz := hws.2.1.size
        clear hws hq
        by_cases hb : 128 ≤ m
        · have HQ2 : Hid ((q ++ [UInt8.ofNat (m % 128 + 128)]) ++ numM (m / 128) = pre ++ numM kn) := Lib.hid (by rw [← HQ.out, numM_ge hb, List.append_assoc]; rfl)
          have hb2 : (128 : Int) ≤ (m : Int) := by omega
          go_wp2_with fail
          refine (wbyte_any B b q (UInt8.ofNat (m % 128 + 128)) _ (by rw [low_num]; first | rfl | go_num | (simp; omega)) _ HWS.out.n (by omega) (by omega)).mono ?_
          rintro e w7 ⟨rfl, hw7⟩
          have HW7 := Lib.hid (wt_trans HWS.out hw7)
          clear hw7
          go_wp2_with fail
          go_roundw
          case rel => exact ⟨m / 128, _, by go_num, by omega, HQ2.out, HW7.out⟩
          case measure => simp [intOf]; omega
        · have hb2 : ¬ (128 : Int) ≤ (m : Int) := by omega
          have HQ2 : Hid (q ++ [UInt8.ofNat m] = pre ++ numM kn) := Lib.hid (by rw [← HQ.out, numM_lt (by omega)])
          go_wp2_with fail
          refine (wbyte_any B b q (UInt8.ofNat m) _ (by rw [end_num m (by omega)]) _ HWS.out.n (by omega) (by omega)).mono ?_
          rintro e w7 ⟨rfl, hw7⟩
          have HW7 := Lib.hid (wt_trans HWS.out hw7)
          rw [HQ2.out, ← HPN.out] at HW7
          clear hw7
          go_wp2_with fail
          go_roundw
          case rel => exact ⟨i + 1, _, by omega, by go_num, rfl, HW7.out⟩
          case measure => simp [intOf]; omega
    · have hl2 : ¬ (i : Int) < (n : Int) := by omega
      have hin : ks.take i = ks := List.take_of_length_le (by rw [HN.out]; omega)
      rw [hin] at HWT
      clear hin
      go_wp2_with fail
      go_end0
      exact ⟨rfl, HWT.out⟩
end Go.Proofs.Ytcphjehjdhgheaa.Nt
