/- The document's bytes of a row of numbers. Conditions: as each says. -/
import Derived.Test.YtcphjehjdhgheaaImE
namespace Go.Proofs.Ytcphjehjdhgheaa.Nt
open Go.ChangeShapes Go.WideShapes Go.ChangeAt Go.RowKit Go.Proofs.Ytcphjehjdhgheaa.Tr
set_option linter.unusedVariables false
set_option linter.unusedSimpArgs false

theorem jnum_of (w : World) (k : Int) (h0 : 0 ≤ k) (h1 : k < 34359738368) : Calls Try.prog 82 #[.int .i64 k] w (fun e w' => e = .returned (.string (bs (numM k.toNat))) ∧ Below w.heap.size w w') := by
  have h := jnum_any k.toNat k.toNat (Nat.le_refl _) (by omega) w
  rw [Int.toNat_of_nonneg h0] at h
  exact h
set_option maxRecDepth 100000 in
set_option maxHeartbeats 4000000 in
theorem jlist_any (w : World) (A : Option Addr) (n c : Nat) (ks : List Int) (hn : ks.length = n) (hm : n ≤ 1000000) (hks : ∀ k ∈ ks, 0 ≤ k ∧ k < 34359738368) (hI : Ints w (.slice A n c) ks) :
    Calls Try.prog 83 #[.slice A n c] w (fun e w' => e = .returned (.string (bs (listM ks))) ∧ Below w.heap.size w w') := by
  have HN := Lib.hid hn
  have HK := Lib.hid hks
  have HI := Lib.hid hI
  have HJ : Hid (∀ (k : Int), 0 ≤ k ∧ k < 34359738368 → ∀ W, Calls Try.prog 82 #[.int .i64 k] W (fun e w' => e = .returned (.string (bs (numM k.toNat))) ∧ Below W.heap.size W w')) := Lib.hid (fun k h W => jnum_of W k h.1 h.2)
  clear hn hks hI
  go_enter Try.func83, Try.ntmps83
  go_wp2_with fail
  refine (HJ.out (n : Int) (by omega) _).mono ?_
  rintro e w1 ⟨rfl, hb1⟩
  have HB1 := Lib.hid hb1
  clear hb1
  go_wp2_with fail
  go_loopw [3, 4] (fun vs vi wr => ∃ (i : Nat) (q : List UInt8), i ≤ n ∧ vi = .int .i64 (i : Int) ∧ vs = .string (bs q) ∧ q = numM n ++ putM (ks.take i) ∧ Below w.heap.size w wr) (fun _ vi _ => n - (intOf vi).toNat)
  case atStart => exact ⟨0, _, Nat.zero_le _, rfl, by first | rfl | simp, by simp [putM], HB1.out⟩
  case round =>
    obtain ⟨i, q, hi, rfl, rfl, hq, hb⟩ := hrel
    have HB := Lib.hid hb
    have HQ := Lib.hid hq
    have hql : q.length ≤ 5000005 := by
      rw [hq, List.length_append]
      have h1 := num_len n (by omega)
      have h2 := put_len (ks.take i) (fun z hz => HK.out z (List.mem_of_mem_take hz))
      rw [List.length_take] at h2
      omega
    clear hb hq
    by_cases hlt : i < n
    · obtain ⟨k, hk⟩ : ∃ k, ks[i]? = some k := ⟨_, List.getElem?_eq_getElem (by rw [HN.out]; exact hlt)⟩
      have hkr := HK.out k (List.mem_of_getElem? hk)
      obtain ⟨g, o, rfl, hg, c0⟩ := ints_at (HI.out.below HB.out (Nat.le_refl _)) hk
      have HNX : Hid (q ++ numM k.toNat = numM n ++ putM (ks.take (i + 1))) := Lib.hid (by
        rw [HQ.out, List.take_add_one, hk, put_app, List.append_assoc]
        congr 2
        show _ = putM [k]
        rw [put_one])
      have hsz : (bs q).size + (bs (numM k.toNat)).size ≤ 9223372036854775807 := by
        rw [bs_size, bs_size]
        have := num_len k.toNat (by omega)
        omega
      have hl2 : (i : Int) < (n : Int) := by omega
      clear hk
      go_wp2_with fail
      refine (HJ.out k hkr _).mono ?_
      rintro e w2 ⟨rfl, hb2⟩
      have HB2 := Lib.hid (HB.out.trans (hb2.mono HB.out.size))
      clear hb2
      go_wp2_with fail
      go_roundw
      case rel => exact ⟨i + 1, _, by omega, by go_num, by rw [bs_app], HNX.out, HB2.out⟩
      case measure => simp [intOf]; omega
    · have hl2 : ¬ (i : Int) < (n : Int) := by omega
      have hin : ks.take i = ks := List.take_of_length_le (by rw [HN.out]; omega)
      have HF : Hid (bs q = bs (listM ks)) := Lib.hid (by rw [HQ.out, hin]; unfold listM; rw [HN.out])
      clear hin
      go_wp2_with fail
      refine bodyPost_ret (v := .string (bs q)) (by simp [results, Try.results83, go_sem]) rfl ⟨by rw [HF.out], HB.out⟩
end Go.Proofs.Ytcphjehjdhgheaa.Nt
