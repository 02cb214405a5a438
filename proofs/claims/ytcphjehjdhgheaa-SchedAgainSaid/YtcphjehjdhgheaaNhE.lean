/- The heap's Push and Pop; the least number. Conditions: what may be taken lies in the queue. -/
import Derived.Test.YtcphjehjdhgheaaNhD
namespace Go.Proofs.Ytcphjehjdhgheaa.Nt
open Go.ChangeShapes Go.WideShapes Go.ChangeAt Go.RowKit Go.Proofs.Ytcphjehjdhgheaa.Tr
set_option linter.unusedVariables false
set_option linter.unusedSimpArgs false

/-- A heap in the queue. -/
structure HpAt (w : World) (base B : Nat) (c0 c1 v : Value) (l : List Int) : Prop where
  row : RdAt w base B c0 c1 v l
  heap : Hp l l.length
def HPushPost (w : World) (base B : Nat) (c0 c1 v : Value) (l : List Int) (x : Int) (e : Ending) (w' : World) : Prop :=
  e = .returned (.tuple #[]) ∧ ∃ v' l', l'.Perm (x :: l) ∧ HpAt w' base B c0 c1 v' l' ∧ (v'.ownBlock = v.ownBlock ∨ ∀ g, v'.ownBlock = some g → w.heap.size ≤ g) ∧ Kp (fun i => i = B ∨ v.ownBlock = some i) w w'
set_option maxRecDepth 100000 in
set_option maxHeartbeats 4000000 in
theorem hpush_any (w : World) (base B : Nat) (c0 c1 v : Value) (l : List Int) (x : Int) (h : HpAt w base B c0 c1 v l) (hb : base ≤ w.heap.size) (hn : l.length ≤ 100000) :
    Calls Try.prog 91 #[ifc B, .iface 3 (.int .i64 x)] w (HPushPost w base B c0 c1 v l x) := by
  have H := Lib.hid h
  have m0 := mPush B
  have e0 := ePush
  have e1 := eLen
  clear h
  go_enter Try.func91, Try.ntmps91
  go_wp2_with fail
  refine (rpush_any w base B c0 c1 v l x H.out.row hb hn).mono ?_
  rintro e w1 ⟨rfl, g, c, hr, hat, hk⟩
  have hm := mLen hr.at3.1
  have HR := Lib.hid hr
  have HAT := Lib.hid hat
  have HK := Lib.hid hk
  clear hr hat hk
  go_wp2_with fail
  refine (len_any _ _ _ _).mono ?_
  rintro e w1' ⟨rfl, rfl⟩
  have hz : ((l.length : Int) + 1) - 1 = (l.length : Int) := by omega
  go_wp2_with fail
  refine (up_any w1' base B g (l.length + 1) c l.length c0 c1 (l ++ [x]) HR.out (by simp) (by omega) (by omega) (up_begin H.out.heap x rfl)).mono ?_
  rintro e w2 ⟨rfl, l', hp, hh, hr2, hk2⟩
  have hlen : l'.length = l.length + 1 := by rw [hp.length_eq]; simp
  have HE : Hid (HPushPost w base B c0 c1 v l x (.returned (.tuple #[])) w2) := Lib.hid ⟨rfl, .slice (some ⟨g, 0, none⟩) (l.length + 1) c, l', hp.trans List.perm_append_comm, ⟨hr2, by rw [hlen]; exact hh⟩,
    HAT.out.imp (fun e => e.symm) (fun e k hk => by
      have e2 : some g = some k := hk
      injection e2 with e2; omega),
    HK.out.trans2 hk2 (fun i hi e => by
      subst e
      rcases HAT.out with e | e
      · exact .inr e
      · omega)⟩
  clear hp hh hr2 hk2 hlen
  go_wp2
  go_end0
  exact HE.out
def HPopPost (w : World) (base B : Nat) (c0 c1 v : Value) (l : List Int) (R : Value) (e : Ending) (w' : World) : Prop :=
  e = .returned R ∧ ∃ v' l', (gd l 0 :: l').Perm l ∧ HpAt w' base B c0 c1 v' l' ∧ v'.ownBlock = v.ownBlock ∧ Kp (fun i => i = B ∨ v.ownBlock = some i) w w'
theorem pop_end {l l1 : List Int} {n : Nat} (hl : l.length = n + 1) (hp : l1.Perm (sw l 0 n)) (hg : gd l1 n = gd (sw l 0 n) n) : gd l1 n = gd l 0 ∧ (gd l 0 :: l1.take n).Perm l ∧ (l1.take n).length = n := by
  have h1 : gd (sw l 0 n) n = gd l 0 := by rw [gd_sw (by omega) (by omega), if_pos rfl]
  have hl1 : l1.length = n + 1 := by rw [hp.length_eq, sw_len, hl]
  rw [h1] at hg
  have e : l1.take n ++ [gd l 0] = l1 := by
    have := List.take_append_drop n l1
    rw [List.drop_eq_getElem_cons (by omega), List.drop_eq_nil_of_le (by omega)] at this
    rw [← hg, gd_eq (by omega)]; exact this
  refine ⟨hg, ?_, by rw [List.length_take]; omega⟩
  have h2 : (gd l 0 :: l1.take n).Perm (l1.take n ++ [gd l 0]) := List.perm_append_comm (l₁ := [gd l 0])
  rw [e] at h2
  exact h2.trans (hp.trans (sw_perm (by omega) (by omega)))
set_option maxRecDepth 100000 in
set_option maxHeartbeats 4000000 in
theorem hpop_any (w : World) (base B : Nat) (c0 c1 v : Value) (l : List Int) (h : HpAt w base B c0 c1 v l) (h0 : 0 < l.length) (hn : l.length ≤ 100000) :
    Calls Try.prog 92 #[ifc B] w (HPopPost w base B c0 c1 v l (.iface 3 (.int .i64 (gd l 0)))) := by
  obtain ⟨n, hln⟩ : ∃ n, l.length = n + 1 := ⟨l.length - 1, by omega⟩
  obtain ⟨g, c, rfl⟩ : ∃ g c, v = .slice (some ⟨g, 0, none⟩) (n + 1) c := by
    obtain ⟨-, h1 | ⟨g, cap, cur, e, -⟩⟩ := h.row.own
    · omega
    · exact ⟨g, cap, by rw [e, hln]⟩
  have H := Lib.hid h
  have HLN := Lib.hid hln
  have m0 := mPop B
  have e0 := ePop
  have e1 := eLen
  have e2 := eSwap
  have hm := mLen h.row.at3.1
  have hm2 := mSwap h.row.at3.1
  have hz : ((n : Int) + 1) - 1 = (n : Int) := by omega
  have hnn : n ≤ 100000 := by omega
  clear h hln h0 hn
  go_enter Try.func92, Try.ntmps92
  go_wp2_with fail
  refine (len_any _ _ _ _).mono ?_
  rintro e w1' ⟨rfl, rfl⟩
  go_wp2_with fail
  refine (swap_z 0 n H.out.row HLN.out (by omega) (by omega) rfl rfl).mono ?_
  rintro e w2 ⟨rfl, hr2, hk2⟩
  have HR2 := Lib.hid hr2
  have HK2 := Lib.hid hk2
  clear hr2 hk2 hm hm2
  go_wp2_with fail
  refine (down_any w2 base B g (n + 1) n c c0 c1 (sw l 0 n) HR2.out (by rw [sw_len]; exact HLN.out) (by omega) (by omega) (dn_begin (by have := H.out.heap; rw [HLN.out] at this; exact this) HLN.out)).mono ?_
  rintro e w3 ⟨b, l1, rfl, hp, hh, hg, hr3, hk3⟩
  have HX := Lib.hid (pop_end HLN.out hp (hg n (Nat.le_refl _)))
  have HHP := Lib.hid (hp_take hh (by rw [hp.length_eq, sw_len, HLN.out]; omega))
  have HPP := Lib.hid (rpop_any w3 base B g n c c0 c1 l1 (by rw [hp.length_eq, sw_len, HLN.out]) hr3)
  have HK3 := Lib.hid hk3
  clear hp hh hg hr3 hk3
  go_wp2_with fail
  refine HPP.out.mono ?_
  rintro e w4 ⟨rfl, hr4, hk4⟩
  have HE : Hid (HPopPost w1' base B c0 c1 (.slice (some ⟨g, 0, none⟩) (n + 1) c) l (.iface 3 (.int .i64 (gd l 0))) (.returned (.iface 3 (.int .i64 (gd l1 n)))) w4) := Lib.hid (by
    obtain ⟨q1, q2, q3⟩ := HX.out
    refine ⟨by rw [q1], _, l1.take n, q2, ⟨hr4, by rw [q3]; exact HHP.out⟩, rfl, ?_⟩
    have k1 : Kp (fun i => i = B ∨ some g = some i) w1' w3 := (HK2.out.trans HK3.out).wide (fun i _ e => .inr (by rw [e]))
    exact k1.trans2 hk4 (fun i _ e => .inl e))
  clear hr4 hk4
  go_wp2
  go_ret
  exact HE.out
set_option maxRecDepth 100000 in
set_option maxHeartbeats 4000000 in
theorem least_any (w : World) (base B : Nat) (c0 c1 v : Value) (l : List Int) (h : HpAt w base B c0 c1 v l) (h0 : 0 < l.length) (hn : l.length ≤ 100000) :
    Calls Try.prog 48 #[.pointer (some ⟨B, 2, none⟩)] w (HPopPost w base B c0 c1 v l (.int .i64 (gd l 0))) := by
  have hta := ta_int (gd l 0)
  have H := Lib.hid h
  have h1 := Lib.hid h0
  have h2 := Lib.hid hn
  clear h h0 hn
  go_enter Try.func48, Try.ntmps48
  go_wp2_with fail
  refine (hpop_any w base B c0 c1 v l H.out h1.out h2.out).mono ?_
  rintro e w1 ⟨rfl, hx⟩
  have HX := Lib.hid hx
  clear hx
  go_wp2
  go_ret
  exact ⟨rfl, HX.out⟩
end Go.Proofs.Ytcphjehjdhgheaa.Nt
