/- The document's answer for layer expr: an operand. Conditions: a reader lies in memory; the contracts at less fuel. -/
import Derived.Test.YtobkcdkffcenbaaGreatDoorCb20
import Derived.Test.YtobkcdkffcenbaaGreatDoorCb17
import Derived.Test.YtobkcdkffcenbaaGreatDoorCb15
import Derived.RegionTactic
import Derived.BigRegion
import Derived.Test.YtobkcdkffcenbaaGreatDoorCa05
import Derived.Test.YtobkcdkffcenbaaGreatDoorCa10
import Derived.Test.YtobkcdkffcenbaaGreatDoorCb19
import Derived.Test.YtobkcdkffcenbaaGreatDoorCa12
import Derived.Deep.LoopGhost
import Derived.IntWalk
set_option linter.unusedVariables false
set_option linter.unusedSimpArgs false
namespace Go.Proofs.YtobkcdkffcenbaaGreatDoor.Rf
open Go.ChangeShapes Go.WideShapes Go.ChangeAt Go.RowKit
open Go.Proofs.YtobkcdkffcenbaaGreatDoor.Ex Go.Proofs.YtobkcdkffcenbaaGreatDoor.Sh
open Go.Proofs.YtobkcdkffcenbaaGreatDoor.Tr (str ret_bool ret_int Bytes Nd T joinM roomM binaryB unaryB plainB)
end Go.Proofs.YtobkcdkffcenbaaGreatDoor.Rf
namespace Go.Proofs.YtobkcdkffcenbaaGreatDoor.Ex
open Go.ChangeShapes Go.WideShapes Go.ChangeAt Go.RowKit
open Go.Proofs.YtobkcdkffcenbaaGreatDoor.Tr (str ret_bool ret_int Bytes Nd joinM roomM own_block)
end Go.Proofs.YtobkcdkffcenbaaGreatDoor.Ex
namespace Go.Proofs.YtobkcdkffcenbaaGreatDoor.Rf
open Go.ChangeShapes Go.WideShapes Go.ChangeAt Go.RowKit
open Go.Proofs.YtobkcdkffcenbaaGreatDoor.Ex Go.Proofs.YtobkcdkffcenbaaGreatDoor.Sh
open Go.Proofs.YtobkcdkffcenbaaGreatDoor.Tr (str ret_bool ret_int Bytes Nd T joinM roomM binaryB unaryB plainB)
end Go.Proofs.YtobkcdkffcenbaaGreatDoor.Rf
namespace Go.Proofs.YtobkcdkffcenbaaGreatDoor.Lx
open Go.ChangeShapes Go.WideShapes Go.ChangeAt Go.RowKit
set_option maxHeartbeats 1600000 in
theorem refSign_any (s : ByteArray) (w : World) (h : s.size ≤ maxLen) (hp : 0 < s.size) :
    Calls Tryz.prog 81 #[.string s] w fun e w' => e = .returned (.string (str (signOf s.toList))) ∧ Below w.heap.size w w' := by
  unfold maxLen at h
  have hne : s.toList ≠ [] := by intro e; have := toList_len s; rw [e] at this; simp at this; omega
  have HF := Lib.hid (find_sign s.toList hne)
  have HL := Lib.hid (toList_len s)
  clear hne
  go_enter Tryz.func81, Tryz.ntmps81
  go_wp2_with fail
  refine (signs_any _).mono ?_
  rintro e w1 ⟨rfl, ht, hb⟩
  rw [show signTexts.length = 16 from rfl]
  have HT := Lib.hid ht
  have HB := Lib.hid hb
  clear ht hb
  go_wp2
  go_loopw [4] (fun i wr => ∃ k n : Nat, k ≤ 16 ∧ i = .int .i64 k ∧ wr = w1.drewN n ∧ (signTexts.take k).find? (fits_ s.toList) = none) (fun i _ => 16 - (intOf i).toNat)
  case atStart => exact ⟨0, 0, Nat.zero_le _, rfl, rfl, rfl⟩
  case round =>
    obtain ⟨k, n, hk, rfl, rfl, hc⟩ := hrel
    have HC := Lib.hid hc
    clear hc
    by_cases hlt : k < 16
    · obtain ⟨x, hx⟩ : ∃ x, signTexts[k]? = some x := ⟨_, List.getElem?_eq_getElem hlt⟩
      have c0 := HT.out.2 k x hx
      have HX := Lib.hid hx
      clear hx
      have hst := str_toList x
      have hsz := str_size x
      by_cases h1 : x.length ≤ s.size
      · have h1' : decide (x.length ≤ s.size) = true := by simpa using h1
        have he : (s.extract 0 x.length).toList = s.toList.take x.length := by rw [extract_toList]; rfl
        rcases Bool.eq_false_or_eq_true ((s.extract 0 x.length).toList == x) with hq | hq
        · have hfit : fits_ s.toList x = true := by
            unfold fits_; rw [HL.out, h1', ← he, hq]; rfl
          have HS := Lib.hid (show signOf s.toList = x from by
            have h2 := HF.out
            rw [find_hit HC.out HX.out hfit] at h2
            split at h2
            · cases h2
            · exact (Option.some.inj h2).symm)
          clear he hfit
          go_wp2
          go_quiet (fail)
          go_wp2
          go_ret
          exact ⟨ret_str (by rw [HS.out]), Below.trans HB.out ⟨rfl, rfl, rfl, Nat.le_refl _, fun _ _ => rfl⟩⟩
        · have hfit : fits_ s.toList x = false := by
            unfold fits_; rw [← he, hq, Bool.and_false]
          have HS := Lib.hid (find_next HC.out HX.out hfit)
          clear he hfit
          go_wp2
          go_quiet (fail)
          go_wp2
          refine ⟨⟨k + 1, n + nq, by omega, by go_num, rfl, HS.out⟩, by simp [intOf]; omega⟩
      · have h1' : decide (x.length ≤ s.size) = false := by simpa using h1
        have hfit : fits_ s.toList x = false := by
          unfold fits_; rw [HL.out, h1', Bool.false_and]
        have HS := Lib.hid (find_next HC.out HX.out hfit)
        clear hfit
        go_wp2
        go_quiet (fail)
        go_wp2
        refine ⟨⟨k + 1, n + nq, by omega, by go_num, rfl, HS.out⟩, by simp [intOf]; omega⟩
    · have HS := Lib.hid (show signOf s.toList = [] from by
        have h2 := HF.out
        have h3 := HC.out
        rw [List.take_of_length_le (by show (16 : Nat) ≤ k; omega)] at h3
        rw [h3] at h2
        split at h2
        · assumption
        · cases h2)
      go_wp2
      go_ret
      exact ⟨ret_str (by rw [HS.out]; rfl), Below.trans HB.out ⟨rfl, rfl, rfl, Nat.le_refl _, fun _ _ => rfl⟩⟩
def oneTok (l : Bytes) (p : Int) (W : World) : Ending → World → Prop :=
  GivesTok W (if (one l).2.2 = 0 then (one l).2.1 else 0) (if (one l).2.2 = 0 then (one l).1 else []) (if (one l).2.2 = 0 then p else 0) (one l).2.2
theorem oneTok_bad {l : Bytes} {T : Bytes} {K E : Int} (h : one l = (T, K, E)) (hE : E ≠ 0) (p : Int) (W : World) : oneTok l p W = GivesTok W 0 [] 0 E := by
  unfold oneTok; rw [h]; simp [hE]
theorem oneTok_ok {l : Bytes} {T : Bytes} {K : Int} (h : one l = (T, K, 0)) (p : Int) (W : World) : oneTok l p W = GivesTok W K T p 0 := by
  unfold oneTok; rw [h]; simp
theorem one_dig (s : ByteArray) (k : Nat) (hp : 0 < s.size) (hd : digitB s[0] = true) (hT : (s.extract 0 k).toList = s.toList.takeWhile digitB) (hk : 0 < k) (hex : (s.extract 0 k).size = k) :
    (1 < k ∧ s[0] = 48 → ∀ p W, oneTok s.toList p W = GivesTok W 0 [] 0 2) ∧ (2147483647 < val (s.extract 0 k).toList → ∀ p W, oneTok s.toList p W = GivesTok W 0 [] 0 2) ∧
    (¬ (1 < k ∧ s[0] = 48) → ¬ 2147483647 < val (s.extract 0 k).toList → ∀ p W, oneTok s.toList p W = GivesTok W 2 (s.extract 0 k).toList p 0) := by
  have ho : one s.toList = ((s.extract 0 k).toList, digM (s.extract 0 k).toList) := by
    unfold one; rw [head_get s hp, if_pos hd, hT]
  have hl : (s.extract 0 k).toList.length = k := by rw [toList_len, hex]
  have hne : (s.extract 0 k).toList ≠ [] := by intro e; rw [e] at hl; simp at hl; omega
  have hh : (s.extract 0 k).toList.headD 0 = s[0] := by
    rw [hT]
    have := head_get s hp
    cases hs : s.toList with
    | nil => rw [hs] at hT; rw [hT] at hne; exact absurd rfl hne
    | cons a r =>
      rw [hs] at this; rw [List.headD_cons] at this
      rw [List.takeWhile_cons, this, hd]; rfl
  have hv := digM_val (s.extract 0 k).toList (by rw [hT]; exact takeWhile_ok _ _) hne
  rw [hl, hh] at hv
  refine ⟨fun h p W => ?_, fun h p W => ?_, fun h1 h2 p W => ?_⟩
  · rw [if_pos (.inl h)] at hv; rw [hv] at ho; exact oneTok_bad ho (by decide) p W
  · rw [if_pos (.inr h)] at hv; rw [hv] at ho; exact oneTok_bad ho (by decide) p W
  · rw [if_neg (fun e => e.elim h1 h2)] at hv; rw [hv] at ho; exact oneTok_ok ho p W
set_option maxRecDepth 100000 in
set_option maxHeartbeats 4000000 in
theorem refOneDigit_any (s : ByteArray) (p : Int) (w : World) (h : s.size ≤ maxLen) (hp : 0 < s.size) (hd : digitB s[0] = true) :
    Calls Tryz.prog 53 #[.string s, .int .i64 p] w (oneTok s.toList p w) := by
  unfold maxLen at h
  have HC := Lib.hid (drop_cons s 0 hp).symm
  rw [List.drop_zero] at HC
  go_enter Tryz.func53, Tryz.ntmps53
  go_wp2_with (go_at_call 77; refine (refDigit_any _ _).mono ?_; rintro e w' ⟨rfl, rfl⟩)
  go_loop [6] (fun i => ∃ k : Nat, k ≤ s.size ∧ i = .int .i64 k ∧ ((s.toList.drop 0).take (k - 0)).all digitB = true) (fun i => s.size - (intOf i).toNat)
  case atStart => exact ⟨0, Nat.zero_le _, rfl, by simp⟩
  case round =>
    obtain ⟨k, hk, rfl, hs⟩ := hrel
    by_cases hlt : k < s.size
    · rcases Bool.eq_false_or_eq_true (digitB s[k]) with hb | hb
      · have HN := Lib.hid (row_more s digitB 0 k (Nat.zero_le _) hlt hs hb)
        clear hs
        go_wp2_with (go_at_call 77; refine (refDigit_any _ _).mono ?_; rintro e w' ⟨rfl, rfl⟩)
        go_round
        case rel => exact ⟨k + 1, by omega, by go_num, HN.out⟩
        case measure => simp [intOf]; omega
      · have HTT := Lib.hid (show (s.extract 0 k).toList = s.toList.takeWhile digitB from row_end s digitB 0 k (Nat.zero_le _) hk hs (fun _ => hb))
        have hkp : 0 < k := by
          rcases Nat.eq_zero_or_pos k with rfl | h0
          · have h1 := HTT.out
            rw [← HC.out, List.takeWhile_cons, hd] at h1
            have h2 := congrArg List.length h1
            rw [toList_len, ByteArray.size_extract] at h2
            simp at h2
          · exact h0
        have hex : (s.extract 0 k).size = k := by rw [ByteArray.size_extract]; omega
        have HO := Lib.hid (one_dig s k hp hd HTT.out hkp hex)
        have H59 := Lib.hid (show ∀ W, Calls Tryz.prog 78 #[.string (s.extract 0 k)] W (Tells (s.extract 0 k).toList W) from fun W => value_any _ W (by rw [hex]; unfold maxLen; omega) (by rw [HTT.out]; exact takeWhile_ok _ _))
        clear hex hs
        rcases Bool.eq_false_or_eq_true ((s[0].toNat : Int) == 48) with z | z
        · by_cases h1 : 1 < k
          · have h1' : decide ((1 : Int) < k) = true := by simp; omega
            go_wp2_with (first | (go_at_call 77; refine (refDigit_any _ _).mono ?_; rintro e w' ⟨rfl, rfl⟩) | (go_at_call 78; refine (H59.out _).mono ?_; rintro e w1 ⟨n, rfl, hn, rfl⟩))
            rw [HO.out.1 ⟨h1, (eq_cast _ _).2 (by simpa using z)⟩ p w]
            exact bodyPost_ret (v := .tuple #[.agg #[.int .i64 0, .string ⟨#[]⟩, .int .i64 0], .int .i64 2]) (by simp [results, Tryz.results53, go_sem]) rfl ⟨rfl, (Below.refl _ _).alloc (Nat.le_refl _) _⟩
          · have h1' : decide ((1 : Int) < k) = false := by simp; omega
            go_wp2_with (first | (go_at_call 77; refine (refDigit_any _ _).mono ?_; rintro e w' ⟨rfl, rfl⟩) | (go_at_call 78; refine (H59.out _).mono ?_; rintro e w1 ⟨n, rfl, hn, rfl⟩))
            · have hb : 2147483647 < val (s.extract 0 k).toList := by assumption
              rw [HO.out.2.1 hb p w]
              exact bodyPost_ret (v := .tuple #[.agg #[.int .i64 0, .string ⟨#[]⟩, .int .i64 0], .int .i64 2]) (by simp [results, Tryz.results53, go_sem]) rfl ⟨rfl, (Below.refl _ _).alloc (Nat.le_refl _) _⟩
            · have hb : ¬ 2147483647 < val (s.extract 0 k).toList := by assumption
              rw [HO.out.2.2 (fun e => h1 e.1) hb p w]
              exact bodyPost_ret (v := .tuple #[.agg #[.int .i64 2, .string (s.extract 0 k), .int .i64 p], .int .i64 0]) (by simp [results, Tryz.results53, go_sem]) rfl ⟨by rw [str_of], (Below.refl _ _).alloc (Nat.le_refl _) _⟩
        · have z' : (s[0] : UInt8) ≠ 48 := by intro e; rw [e] at z; simp at z
          by_cases h1 : 1 < k
          · have h1' : decide ((1 : Int) < k) = true := by simp; omega
            go_wp2_with (first | (go_at_call 77; refine (refDigit_any _ _).mono ?_; rintro e w' ⟨rfl, rfl⟩) | (go_at_call 78; refine (H59.out _).mono ?_; rintro e w1 ⟨n, rfl, hn, rfl⟩))
            · have hb : 2147483647 < val (s.extract 0 k).toList := by assumption
              rw [HO.out.2.1 hb p w]
              exact bodyPost_ret (v := .tuple #[.agg #[.int .i64 0, .string ⟨#[]⟩, .int .i64 0], .int .i64 2]) (by simp [results, Tryz.results53, go_sem]) rfl ⟨rfl, (Below.refl _ _).alloc (Nat.le_refl _) _⟩
            · have hb : ¬ 2147483647 < val (s.extract 0 k).toList := by assumption
              rw [HO.out.2.2 (fun e => z' e.2) hb p w]
              exact bodyPost_ret (v := .tuple #[.agg #[.int .i64 2, .string (s.extract 0 k), .int .i64 p], .int .i64 0]) (by simp [results, Tryz.results53, go_sem]) rfl ⟨by rw [str_of], (Below.refl _ _).alloc (Nat.le_refl _) _⟩
          · have h1' : decide ((1 : Int) < k) = false := by simp; omega
            go_wp2_with (first | (go_at_call 77; refine (refDigit_any _ _).mono ?_; rintro e w' ⟨rfl, rfl⟩) | (go_at_call 78; refine (H59.out _).mono ?_; rintro e w1 ⟨n, rfl, hn, rfl⟩))
            · have hb : 2147483647 < val (s.extract 0 k).toList := by assumption
              rw [HO.out.2.1 hb p w]
              exact bodyPost_ret (v := .tuple #[.agg #[.int .i64 0, .string ⟨#[]⟩, .int .i64 0], .int .i64 2]) (by simp [results, Tryz.results53, go_sem]) rfl ⟨rfl, (Below.refl _ _).alloc (Nat.le_refl _) _⟩
            · have hb : ¬ 2147483647 < val (s.extract 0 k).toList := by assumption
              rw [HO.out.2.2 (fun e => z' e.2) hb p w]
              exact bodyPost_ret (v := .tuple #[.agg #[.int .i64 2, .string (s.extract 0 k), .int .i64 p], .int .i64 0]) (by simp [results, Tryz.results53, go_sem]) rfl ⟨by rw [str_of], (Below.refl _ _).alloc (Nat.le_refl _) _⟩
    · have HTT := Lib.hid (show (s.extract 0 k).toList = s.toList.takeWhile digitB from row_end s digitB 0 k (Nat.zero_le _) hk hs (fun h => absurd h hlt))
      have hkp : 0 < k := by
        rcases Nat.eq_zero_or_pos k with rfl | h0
        · have h1 := HTT.out
          rw [← HC.out, List.takeWhile_cons, hd] at h1
          have h2 := congrArg List.length h1
          rw [toList_len, ByteArray.size_extract] at h2
          simp at h2
        · exact h0
      have hex : (s.extract 0 k).size = k := by rw [ByteArray.size_extract]; omega
      have HO := Lib.hid (one_dig s k hp hd HTT.out hkp hex)
      have H59 := Lib.hid (show ∀ W, Calls Tryz.prog 78 #[.string (s.extract 0 k)] W (Tells (s.extract 0 k).toList W) from fun W => value_any _ W (by rw [hex]; unfold maxLen; omega) (by rw [HTT.out]; exact takeWhile_ok _ _))
      clear hex hs
      rcases Bool.eq_false_or_eq_true ((s[0].toNat : Int) == 48) with z | z
      · by_cases h1 : 1 < k
        · have h1' : decide ((1 : Int) < k) = true := by simp; omega
          go_wp2_with (first | (go_at_call 77; refine (refDigit_any _ _).mono ?_; rintro e w' ⟨rfl, rfl⟩) | (go_at_call 78; refine (H59.out _).mono ?_; rintro e w1 ⟨n, rfl, hn, rfl⟩))
          rw [HO.out.1 ⟨h1, (eq_cast _ _).2 (by simpa using z)⟩ p w]
          exact bodyPost_ret (v := .tuple #[.agg #[.int .i64 0, .string ⟨#[]⟩, .int .i64 0], .int .i64 2]) (by simp [results, Tryz.results53, go_sem]) rfl ⟨rfl, (Below.refl _ _).alloc (Nat.le_refl _) _⟩
        · have h1' : decide ((1 : Int) < k) = false := by simp; omega
          go_wp2_with (first | (go_at_call 77; refine (refDigit_any _ _).mono ?_; rintro e w' ⟨rfl, rfl⟩) | (go_at_call 78; refine (H59.out _).mono ?_; rintro e w1 ⟨n, rfl, hn, rfl⟩))
          · have hb : 2147483647 < val (s.extract 0 k).toList := by assumption
            rw [HO.out.2.1 hb p w]
            exact bodyPost_ret (v := .tuple #[.agg #[.int .i64 0, .string ⟨#[]⟩, .int .i64 0], .int .i64 2]) (by simp [results, Tryz.results53, go_sem]) rfl ⟨rfl, (Below.refl _ _).alloc (Nat.le_refl _) _⟩
          · have hb : ¬ 2147483647 < val (s.extract 0 k).toList := by assumption
            rw [HO.out.2.2 (fun e => h1 e.1) hb p w]
            exact bodyPost_ret (v := .tuple #[.agg #[.int .i64 2, .string (s.extract 0 k), .int .i64 p], .int .i64 0]) (by simp [results, Tryz.results53, go_sem]) rfl ⟨by rw [str_of], (Below.refl _ _).alloc (Nat.le_refl _) _⟩
      · have z' : (s[0] : UInt8) ≠ 48 := by intro e; rw [e] at z; simp at z
        by_cases h1 : 1 < k
        · have h1' : decide ((1 : Int) < k) = true := by simp; omega
          go_wp2_with (first | (go_at_call 77; refine (refDigit_any _ _).mono ?_; rintro e w' ⟨rfl, rfl⟩) | (go_at_call 78; refine (H59.out _).mono ?_; rintro e w1 ⟨n, rfl, hn, rfl⟩))
          · have hb : 2147483647 < val (s.extract 0 k).toList := by assumption
            rw [HO.out.2.1 hb p w]
            exact bodyPost_ret (v := .tuple #[.agg #[.int .i64 0, .string ⟨#[]⟩, .int .i64 0], .int .i64 2]) (by simp [results, Tryz.results53, go_sem]) rfl ⟨rfl, (Below.refl _ _).alloc (Nat.le_refl _) _⟩
          · have hb : ¬ 2147483647 < val (s.extract 0 k).toList := by assumption
            rw [HO.out.2.2 (fun e => z' e.2) hb p w]
            exact bodyPost_ret (v := .tuple #[.agg #[.int .i64 2, .string (s.extract 0 k), .int .i64 p], .int .i64 0]) (by simp [results, Tryz.results53, go_sem]) rfl ⟨by rw [str_of], (Below.refl _ _).alloc (Nat.le_refl _) _⟩
        · have h1' : decide ((1 : Int) < k) = false := by simp; omega
          go_wp2_with (first | (go_at_call 77; refine (refDigit_any _ _).mono ?_; rintro e w' ⟨rfl, rfl⟩) | (go_at_call 78; refine (H59.out _).mono ?_; rintro e w1 ⟨n, rfl, hn, rfl⟩))
          · have hb : 2147483647 < val (s.extract 0 k).toList := by assumption
            rw [HO.out.2.1 hb p w]
            exact bodyPost_ret (v := .tuple #[.agg #[.int .i64 0, .string ⟨#[]⟩, .int .i64 0], .int .i64 2]) (by simp [results, Tryz.results53, go_sem]) rfl ⟨rfl, (Below.refl _ _).alloc (Nat.le_refl _) _⟩
          · have hb : ¬ 2147483647 < val (s.extract 0 k).toList := by assumption
            rw [HO.out.2.2 (fun e => z' e.2) hb p w]
            exact bodyPost_ret (v := .tuple #[.agg #[.int .i64 2, .string (s.extract 0 k), .int .i64 p], .int .i64 0]) (by simp [results, Tryz.results53, go_sem]) rfl ⟨by rw [str_of], (Below.refl _ _).alloc (Nat.le_refl _) _⟩
end Go.Proofs.YtobkcdkffcenbaaGreatDoor.Lx

