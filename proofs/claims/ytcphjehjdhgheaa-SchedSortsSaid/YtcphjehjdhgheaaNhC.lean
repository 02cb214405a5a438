/- The heap's up and down, Push and Pop. Conditions: what may be taken lies in the queue. -/
import Derived.Test.YtcphjehjdhgheaaNhB
namespace Go.Proofs.Ytcphjehjdhgheaa.Nt
open Go.ChangeShapes Go.WideShapes Go.ChangeAt Go.RowKit Go.Proofs.Ytcphjehjdhgheaa.Tr
set_option linter.unusedVariables false
set_option linter.unusedSimpArgs false

abbrev ifc (B : Nat) : Value := .iface 153 (.pointer (some ⟨B, 2, none⟩))
/-- Places of the row have changed, nothing else. -/
theorem RdAt.turned {w w' : World} {base B g n c : Nat} {c0 c1 : Value} {l l' : List Int} (h : RdAt w base B c0 c1 (.slice (some ⟨g, 0, none⟩) n c) l) (ho : w'.ownsRow base 3 1 (.slice (some ⟨g, 0, none⟩) n c) l'.length (intsOf l')) (hk : Kp (fun k => k = g) w w') : RdAt w' base B c0 c1 (.slice (some ⟨g, 0, none⟩) n c) l' :=
  ⟨(hk.block B h.lt (fun e => (h.ne g rfl).1 e.symm)).trans h.cell, ho⟩
theorem RdAt.same {w w' : World} {base B : Nat} {c0 c1 v : Value} {l : List Int} (h : RdAt w base B c0 c1 v l) (hh : w'.heap = w.heap) : RdAt w' base B c0 c1 v l :=
  ⟨by rw [hh]; exact h.cell, own_block h.own (fun k _ => by rw [hh])⟩
theorem RdAt.drewN {w : World} {base B : Nat} {c0 c1 v : Value} {l : List Int} (h : RdAt w base B c0 c1 v l) (q : Nat) : RdAt (w.drewN q) base B c0 c1 v l := h.same rfl
theorem less_n {w : World} {base B g n c i j : Nat} {c0 c1 : Value} {l : List Int} (hr : RdAt w base B c0 c1 (.slice (some ⟨g, 0, none⟩) n c) l) (hl : l.length = n) (hi : i < n) (hj : j < n) :
    Calls Try.prog 157 #[.slice (some ⟨g, 0, none⟩) n c, .int .i64 (i : Int), .int .i64 (j : Int)] w (LessPost w l i j) := by
  subst hl; exact less_any g c base l i j w hr.own hi hj
def SwPost (w : World) (base B g n c : Nat) (c0 c1 : Value) (l : List Int) (i j : Nat) (e : Ending) (w' : World) : Prop :=
  e = .returned (.tuple #[]) ∧ RdAt w' base B c0 c1 (.slice (some ⟨g, 0, none⟩) n c) (sw l i j) ∧ Kp (fun k => k = g) w w'
theorem swap_n {w : World} {base B g n c i j : Nat} {c0 c1 : Value} {l : List Int} (hr : RdAt w base B c0 c1 (.slice (some ⟨g, 0, none⟩) n c) l) (hl : l.length = n) (hi : i < n) (hj : j < n) :
    Calls Try.prog 159 #[.slice (some ⟨g, 0, none⟩) n c, .int .i64 (i : Int), .int .i64 (j : Int)] w (SwPost w base B g n c c0 c1 l i j) := by
  subst hl
  refine (swap_any g c base l i j w hr.own hi hj).mono ?_
  rintro e w' ⟨rfl, ho, hk⟩
  exact ⟨rfl, hr.turned (by rw [sw_len]; exact ho) hk, hk⟩
def UpPost (w : World) (base B : Nat) (c0 c1 : Value) (g n c : Nat) (l : List Int) (e : Ending) (w' : World) : Prop :=
  e = .returned (.tuple #[]) ∧ ∃ l' : List Int, l'.Perm l ∧ Hp l' n ∧ RdAt w' base B c0 c1 (.slice (some ⟨g, 0, none⟩) n c) l' ∧ Kp (fun i => i = g) w w'
set_option maxRecDepth 100000 in
set_option maxHeartbeats 8000000 in
theorem up_any (w : World) (base B g n c j : Nat) (c0 c1 : Value) (l : List Int) (h : RdAt w base B c0 c1 (.slice (some ⟨g, 0, none⟩) n c) l) (hl : l.length = n) (hj : j < n) (hn : n ≤ 1000000) (hu : HpUp l n j) :
    Calls Try.prog 127 #[ifc B, .int .i64 (j : Int)] w (UpPost w base B c0 c1 g n c l) := by
  have H := Lib.hid h
  have HL := Lib.hid hl
  have HU := Lib.hid hu
  have e1 := eLess
  have e2 := eSwap
  clear h hl hu
  go_enter Try.func127, Try.ntmps127
  go_wp2_with fail
  go_loopw [1] (fun vj wr => ∃ (k : Nat) (l' : List Int), vj = .int .i64 (k : Int) ∧ k < n ∧ l'.Perm l ∧ HpUp l' n k ∧ RdAt wr base B c0 c1 (.slice (some ⟨g, 0, none⟩) n c) l' ∧ Kp (fun i => i = g) w wr) (fun vj _ => (intOf vj).toNat)
  case atStart => exact ⟨j, l, rfl, hj, List.Perm.refl _, HU.out, H.out, Kp.refl _ _⟩
  case round =>
    obtain ⟨k, l', rfl, hk, hp, hu, hr, hkp⟩ := hrel
    by_cases hk0 : k = 0
    · subst hk0
      have HP := Lib.hid hp
      have HK := Lib.hid hkp
      have HR := Lib.hid hr
      have HUU := Lib.hid hu
      have hz : (0 : Nat) < n := hk
      clear hp hkp hr hu
      go_wp2
      go_end0
      exact ⟨rfl, l', HP.out, up_done HUU.out (.inl rfl), HR.out, HK.out⟩
    · obtain ⟨i, hi⟩ : ∃ i, (k - 1) / 2 = i := ⟨_, rfl⟩
      have hik : i ≠ k := by omega
      have hq : ((k : Int) - 1).tdiv 2 = (i : Int) := by rw [Int.tdiv_eq_ediv_of_nonneg (by omega)]; omega
      have hm1 := mLess hr.at3.1
      have hm2 := mSwap hr.at3.1
      have hd : ((i : Int) == (k : Int)) = false := by simp; omega
      obtain ⟨q, hq'⟩ : ∃ q, decide (gd l' k < gd l' i) = q := ⟨_, rfl⟩
      have HQ := Lib.hid hq'
      have hl' : l'.length = n := hp.length_eq.trans HL.out
      have HLS := Lib.hid (less_n hr hl' hk (show i < n by omega))
      have HSW := Lib.hid (fun q => swap_n (hr.drewN q) hl' (show i < n by omega) hk)
      have hm3 := fun q => mSwap (hr.drewN q).at3.1
      have HP := Lib.hid hp
      have HK := Lib.hid hkp
      have HR := Lib.hid hr
      have HUU := Lib.hid hu
      have HI := Lib.hid hi
      have hin : i < n := by omega
      have HJ := Lib.hid (show i < k by omega)
      clear hq' hl' hp hkp hr hu hi
      cases q with
      | false =>
        go_wp2_with fail
        refine HLS.out.mono ?_
        rintro e w1 ⟨rfl, q, rfl⟩
        rw [HQ.out]
        go_wp2
        go_end0
        refine ⟨rfl, l', HP.out, up_done HUU.out (.inr ?_), HR.out.drewN q, HK.out.drewN q⟩
        have := of_decide_eq_false HQ.out
        rw [HI.out]; omega
      | true =>
        go_wp2_with fail
        refine HLS.out.mono ?_
        rintro e w1 ⟨rfl, q, rfl⟩
        rw [HQ.out]
        go_wp2_with fail
        refine (HSW.out q).mono ?_
        rintro e w2 ⟨rfl, hr2, hk2⟩
        have HR2 := Lib.hid hr2
        have HK2 := Lib.hid hk2
        clear hr2 hk2
        go_wp2
        refine ⟨⟨i, sw l' i k, rfl, hin, ?_, ?_, HR2.out, (HK.out.drewN q).trans HK2.out⟩, ?_⟩
        · exact (sw_perm (by rw [HP.out.length_eq, HL.out]; exact hin) (by rw [HP.out.length_eq, HL.out]; exact hk)).trans HP.out
        · have := up_step HUU.out (by omega) hk (by rw [HP.out.length_eq, HL.out]; exact Nat.le_refl _) (by rw [HI.out]; exact of_decide_eq_true HQ.out)
          rw [HI.out] at this; exact this
        · simp [intOf]; exact HJ.out
end Go.Proofs.Ytcphjehjdhgheaa.Nt
