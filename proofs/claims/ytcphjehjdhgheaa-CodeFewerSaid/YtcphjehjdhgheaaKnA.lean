/- Rows that are the same are so by the document's question; whether instants are few. Conditions: none. The document's instant of code: the numbers of inputs, what an instruction makes. Conditions: code that may be. -/
import Derived.Test.YtcphjehjdhgheaaNkC
import Derived.Test.YtcphjehjdhgheaaNtLv
import Derived.Test.YtcphjehjdhgheaaKaC
namespace Go.Proofs.Ytcphjehjdhgheaa.Nt
open Go.ChangeShapes Go.WideShapes Go.ChangeAt Go.RowKit Go.Proofs.Ytcphjehjdhgheaa.Tr
set_option linter.unusedVariables false
set_option linter.unusedSimpArgs false

set_option maxRecDepth 100000 in
set_option maxHeartbeats 4000000 in
theorem rows_eq (w : World) (u v : Value) (l : List (List Int)) (hu : RowsR w u l) (hv : RowsR w v l) : Calls Try.prog 30 #[u, v] w (fun e w' => e = .returned (.bool true) ∧ Below w.heap.size w w') := by
  have HU := Lib.hid hu
  have HV := Lib.hid hv
  obtain ⟨A, c, rfl, z1, z2⟩ := hu.form
  obtain ⟨B, d, rfl, z3, z4⟩ := hv.form
  obtain ⟨n, hn⟩ : ∃ n, l.length = n := ⟨_, rfl⟩
  have HN := Lib.hid hn
  rw [hn] at HU HV z1 z3 ⊢
  unfold maxLen at z2 z4
  clear hu hv hn
  go_enter Try.func30, Try.ntmps30
  go_wp2_with fail
  go_loopw [5] (fun vi wr => ∃ k : Nat, k ≤ n ∧ vi = .int .i64 (k : Int) ∧ Below w.heap.size w wr) (fun vi _ => n - (intOf vi).toNat)
  case atStart => exact ⟨0, Nat.zero_le _, rfl, Below.refl _ _⟩
  case round =>
    obtain ⟨k, hk, rfl, hb⟩ := hrel
    have HB := Lib.hid hb
    by_cases hkn : k < n
    · obtain ⟨r, hr⟩ : ∃ r, l[k]? = some r := ⟨_, List.getElem?_eq_getElem (by rw [HN.out]; exact hkn)⟩
      obtain ⟨g, o, RA, rc, rfl, hg, e0, x1, x2, hI⟩ := (HU.out.below hb (Nat.le_refl _)).at hr
      obtain ⟨g', o', RB, rd, rfl, hg', f0, x3, x4, hJ⟩ := (HV.out.below hb (Nat.le_refl _)).at hr
      have hgr : g < wr.heap.size := hg
      have hgr' : g' < wr.heap.size := hg'
      have HI := Lib.hid hI
      have HJ := Lib.hid hJ
      unfold maxLen at x2 x4
      have HKS : Hid (∀ W, Below wr.heap.size wr W → W.cell? ⟨g, o + k, none⟩ = some (.slice RA r.length rc) ∧ W.cell? ⟨g', o' + k, none⟩ = some (.slice RB r.length rd)) := Lib.hid (fun W hW => ⟨(hW.cell hgr).trans e0, (hW.cell hgr').trans f0⟩)
      have HBcur : Hid (Below wr.heap.size wr wr.drew) := Lib.hid (Below.refl _ _).drew
      clear hr hI hJ hb e0 f0
      go_wp2_with fail
      go_region_held3 (fun W => W.cell? ⟨g, o + k, none⟩ = some (.slice RA r.length rc) ∧ W.cell? ⟨g', o' + k, none⟩ = some (.slice RB r.length rd))
        (exact HKS.out _ HBcur.out)
        (first | (go_at_call 21; with_reducible refine (ints_eq _ _ _ r (HI.out.below HBcur.out (Nat.le_refl _)) (HJ.out.below HBcur.out (Nat.le_refl _))).mono ?_; rintro e z1 ⟨rfl, hbz⟩; have HBcur := Lib.hid (HBcur.out.trans (hbz.mono HBcur.out.size)); clear hbz))
      all_goals
        rename_i z1 _
        have HB2 : Hid (Below w.heap.size w z1) := Lib.hid (HB.out.trans (HBcur.out.mono HB.out.size))
        go_wp2_with fail
        go_roundw
        case rel => exact ⟨k + 1, by omega, by go_num, HB2.out⟩
        case measure => simp [intOf]; omega
    · have hke : k = n := by omega
      subst hke
      go_wp2_with fail
      go_ret
      exact ⟨rfl, HB.out⟩
/-- Few instants of few inputs. -/
def FewI (l : List (List Int)) : Prop := l.length ≤ 20 ∧ ∀ (i : Nat) (r : List Int), l[i]? = some r → r.length ≤ 60
set_option maxRecDepth 100000 in
set_option maxHeartbeats 4000000 in
theorem fewi_any (w : World) (v : Value) (l : List (List Int)) (hv : RowsR w v l) : Calls Try.prog 28 #[.slice none 0 0, v] w (fun e w' => ∃ b, e = .returned (.bool b) ∧ (b = true → FewI l) ∧ Below w.heap.size w w') := by
  have HV := Lib.hid hv
  obtain ⟨A, c, rfl, z1, z2⟩ := hv.form
  obtain ⟨n, hn⟩ : ∃ n, l.length = n := ⟨_, rfl⟩
  have HN := Lib.hid hn
  rw [hn] at HV z1 ⊢
  unfold maxLen at z2
  clear hv hn
  by_cases h20 : 20 < n
  · have hd : decide ((20 : Int) < (n : Int)) = true := decide_eq_true (by omega)
    go_enter Try.func28, Try.ntmps28
    go_wp2
    go_ret
    exact ⟨false, rfl, (fun h => by cases h), Below.refl _ _⟩
  · have hd : decide ((20 : Int) < (n : Int)) = false := decide_eq_false (by omega)
    go_enter Try.func28, Try.ntmps28
    go_wp2
    go_loopw [5] (fun vi wr => vi = .int .i64 0 ∧ wr = w) (fun vi _ => 0)
    case atStart => exact ⟨rfl, rfl⟩
    case round =>
      obtain ⟨rfl, hw⟩ := hrel
      subst hw
      go_wp2
      go_loopw [6] (fun vi wx => ∃ k : Nat, k ≤ n ∧ vi = .int .i64 (k : Int) ∧ wx = wr ∧ ∀ (i : Nat) (r : List Int), i < k → l[i]? = some r → r.length ≤ 60) (fun vi _ => n - (intOf vi).toNat)
      case atStart => exact ⟨0, Nat.zero_le _, rfl, rfl, fun i r h => by omega⟩
      case round =>
        obtain ⟨k, hk, rfl, hw, ha⟩ := hrel
        subst hw
        have HA := Lib.hid ha
        clear ha
        by_cases hkn : k < n
        · obtain ⟨r, hr⟩ : ∃ r, l[k]? = some r := ⟨_, List.getElem?_eq_getElem (by rw [HN.out]; exact hkn)⟩
          obtain ⟨g, o, RA, rc, rfl, hg, e0, x1, x2, hI⟩ := HV.out.at hr
          unfold maxLen at x2
          have HR := Lib.hid hr
          clear hr hI
          by_cases h60 : 60 < r.length
          · have hd6 : decide ((60 : Int) < (r.length : Int)) = true := decide_eq_true (by omega)
            go_wp2
            go_ret
            exact ⟨false, rfl, (fun h => by cases h), Below.refl _ _⟩
          · have hd6 : decide ((60 : Int) < (r.length : Int)) = false := decide_eq_false (by omega)
            have HA2 : Hid (∀ (i : Nat) (r : List Int), i < k + 1 → l[i]? = some r → r.length ≤ 60) := Lib.hid (fun i r' hi hr' => by
              by_cases e : i = k
              · subst e; rw [HR.out] at hr'; injection hr' with hr'; subst hr'; omega
              · exact HA.out i r' (by omega) hr')
            go_wp2
            go_roundw
            case rel => exact ⟨k + 1, by omega, by go_num, by first | rfl | trivial, HA2.out⟩
            case measure => simp [intOf]; omega
        · have hke : k = n := by omega
          subst hke
          have HF : Hid (FewI l) := Lib.hid ⟨by rw [HN.out]; omega, fun i r hr => HA.out i r (by have := (List.getElem?_eq_some_iff.1 hr).1; rw [HN.out] at this; exact this) hr⟩
          go_wp2
          go_ret
          exact ⟨true, rfl, (fun _ => HF.out), Below.refl _ _⟩
end Go.Proofs.Ytcphjehjdhgheaa.Nt

namespace Go.Proofs.Ytcphjehjdhgheaa.Nt
open Go.ChangeShapes Go.WideShapes Go.ChangeAt Go.RowKit Go.Proofs.Ytcphjehjdhgheaa.Tr
open Go.Proofs.Ytcphjehjdhgheaa.Num (doN refDo_any)
set_option linter.unusedVariables false
set_option linter.unusedSimpArgs false

set_option maxRecDepth 100000 in
set_option maxHeartbeats 4000000 in
theorem kframe_any (w : World) (iv ov pv uv : Value) (r s : Int) (tys row : List Int) (hi : Ints w pv tys) (hu : Ints w uv row) :
    Calls Try.prog 112 #[.agg #[iv, .int .i64 r, .int .i64 s, ov, pv], uv] w (fun e w' => e = .returned (.bool (frameB tys row)) ∧ Below w.heap.size w w') := by
  obtain ⟨A, c, rfl, z1, z2⟩ := ints_form hi
  obtain ⟨B, d, rfl, z3, z4⟩ := ints_form hu
  obtain ⟨x, hx⟩ : ∃ W, w.alloc (.cells #[iv, .int .i64 r, .int .i64 s, ov, .slice A tys.length c] 54) = W := ⟨_, rfl⟩
  have HBX : Hid (Below w.heap.size w x) := Lib.hid (by rw [← hx]; exact below_new _ _)
  have HXX : Hid (CodBox x w.heap.size 54 iv r s ov (.slice A tys.length c)) := Lib.hid (by rw [← hx]; exact codbox_new _ _ _ _ _ _ _)
  have HI := Lib.hid (hi.below HBX.out (Nat.le_refl _))
  have HU := Lib.hid (hu.below HBX.out (Nat.le_refl _))
  obtain ⟨p0, p1, p2, p3, p4⟩ := HXX.out.ats
  unfold maxLen at z2 z4
  clear hi hu
  by_cases hl : row.length = tys.length
  · have HF := Lib.hid (frame_all tys row hl)
    have hle : ((row.length : Int) != (tys.length : Int)) = false := by simp [hl]
    obtain ⟨n, hn⟩ : ∃ n, row.length = n := ⟨_, rfl⟩
    rw [← hl] at z1 hle p4 ⊢
    rw [hn] at z1 z3 hle p4 HF ⊢
    rw [← hl, hn] at hx HXX
    rw [← hl, hn] at HI
    rw [hn] at HU
    have HN := Lib.hid hn
    have HNT : Hid (tys.length = n) := Lib.hid (by rw [← hl]; exact hn)
    clear hl hn
    go_enter Try.func112, Try.ntmps112
    go_wp2
    clear hx
    go_loopw [5] (fun vi wr => ∃ k : Nat, k ≤ n ∧ vi = .int .i64 (k : Int) ∧ wr = x ∧ ((List.range k).all fun i => okE (tys.getD i 0) (row.getD i 0)) = true) (fun vi _ => n - (intOf vi).toNat)
    case atStart => exact ⟨0, Nat.zero_le _, rfl, rfl, rfl⟩
    case round =>
      obtain ⟨k, hk, rfl, rfl, ha⟩ := hrel
      have HA := Lib.hid ha
      clear ha
      by_cases hkn : k < n
      · obtain ⟨t, ht⟩ : ∃ t, tys[k]? = some t := ⟨_, List.getElem?_eq_getElem (by rw [HNT.out]; exact hkn)⟩
        obtain ⟨y, hy⟩ : ∃ t, row[k]? = some t := ⟨_, List.getElem?_eq_getElem (by rw [HN.out]; exact hkn)⟩
        obtain ⟨g, o, rfl, hg, a0⟩ := ints_at HI.out ht
        obtain ⟨g', o', rfl, hg', b0⟩ := ints_at HU.out hy
        have HE : Hid (okE (tys.getD k 0) (row.getD k 0) = okE t y) := Lib.hid (by rw [getD_of ht, getD_of hy])
        clear ht hy
        obtain ⟨b1, hb1⟩ : ∃ b, fitsI y = b := ⟨_, rfl⟩
        obtain ⟨b2, hb2⟩ : ∃ b, (t == 1) = b := ⟨_, rfl⟩
        obtain ⟨b3, hb3⟩ : ∃ b, (y != 0) = b := ⟨_, rfl⟩
        obtain ⟨b4, hb4⟩ : ∃ b, (y != 1) = b := ⟨_, rfl⟩
        have HO : Hid (okE t y = (b1 && !(b2 && b3 && b4))) := Lib.hid (by unfold okE; rw [hb1, hb2, hb3, hb4])
        by_cases hok : (b1 && !(b2 && b3 && b4)) = true
        · have HA2 : Hid (((List.range (k + 1)).all fun i => okE (tys.getD i 0) (row.getD i 0)) = true) := Lib.hid (by rw [all_snoc, HA.out, HE.out, HO.out, hok]; rfl)
          cases b1 <;> cases b2 <;> cases b3 <;> cases b4 <;> first | (exfalso; revert hok; decide) | skip
          all_goals
            go_wp2_with (go_at_call 98; with_reducible refine (dfits_any _ _).mono ?_; rw [hb1]; rintro e w' ⟨rfl, rfl⟩)
            exact ⟨⟨k + 1, by omega, by go_num, trivial, HA2.out⟩, by simp [intOf]; omega⟩
        · have HA2 : Hid (frameB tys row = false) := Lib.hid (by rw [HF.out]; exact all_no hkn (by rw [HE.out, HO.out]; simpa using hok))
          cases b1 <;> cases b2 <;> cases b3 <;> cases b4 <;> first | (exfalso; revert hok; decide) | skip
          all_goals
            go_wp2_with (go_at_call 98; with_reducible refine (dfits_any _ _).mono ?_; rw [hb1]; rintro e w' ⟨rfl, rfl⟩)
            go_ret
            exact ⟨ret_bool HA2.out.symm, HBX.out⟩
      · have hke : k = n := by omega
        subst hke
        go_wp2
        go_ret
        exact ⟨ret_bool (by rw [HF.out]; exact HA.out.symm), HBX.out⟩
  · have hle : ((row.length : Int) != (tys.length : Int)) = true := by rw [bne_iff_ne]; omega
    have e : frameB tys row = false := by unfold frameB; rw [decide_eq_false hl]; rfl
    rw [e]
    go_enter Try.func112, Try.ntmps112
    go_wp2
    go_ret
    exact ⟨rfl, HBX.out⟩
end Go.Proofs.Ytcphjehjdhgheaa.Nt
