/- The document's functions of layer types: streams and nodes by their names, arguments, operands of one type. Conditions: the slices are read as lists. -/
import Derived.Test.YtobkcdkffcenbaaGreatDoorSa06
import Derived.BigQuiet
import Derived.Test.YtobkcdkffcenbaaGreatDoorSa04
set_option linter.unusedVariables false
set_option linter.unusedSimpArgs false
namespace Go.Proofs.YtobkcdkffcenbaaGreatDoor.Ty
open Go.ChangeShapes Go.WideShapes Go.ChangeAt Go.RowKit
open Go.Proofs.YtobkcdkffcenbaaGreatDoor.Tr
open Go.Proofs.YtobkcdkffcenbaaGreatDoor.Pg (Prm Unt)
open Go.Proofs.YtobkcdkffcenbaaGreatDoor.Ow (PrmN UntN RowN rown_at rown_form)
theorem drop_at' {α : Type} {l : List α} {j : Nat} {e : α} (h : l[j]? = some e) : l.drop j = e :: l.drop (j + 1) := by
  have hj := (List.getElem?_eq_some_iff.1 h).1
  rw [List.drop_eq_getElem_cons hj]; congr 1; exact (List.getElem?_eq_some_iff.1 h).2
theorem str_hit (l : List Prm) (k : Nat) (s : Bytes) (p : Prm) (h : ∀ j q, j < k → l[j]? = some q → (q.name == s) = false) (hp : l[k]? = some p) (hs : (p.name == s) = true) : strOf l s = some p.ty := by
  have hk := (List.getElem?_eq_some_iff.1 hp).1
  have e : l = l.take k ++ p :: l.drop (k + 1) := by rw [← drop_at' hp, List.take_append_drop]
  unfold strOf
  rw [e, List.find?_append, List.find?_eq_none.2 (fun q hq => by
    obtain ⟨j, hj⟩ := List.mem_iff_getElem?.1 hq
    have hjl := (List.getElem?_eq_some_iff.1 hj).1
    rw [List.length_take] at hjl
    rw [List.getElem?_take_of_lt (by omega)] at hj
    simp [h j q (by omega) hj])]
  simp [hs]
theorem str_miss (l : List Prm) (s : Bytes) (h : ∀ j q, j < l.length → l[j]? = some q → (q.name == s) = false) : strOf l s = none := by
  unfold strOf
  rw [List.find?_eq_none.2 (fun q hq => by
    obtain ⟨j, hj⟩ := List.mem_iff_getElem?.1 hq
    simp [h j q (List.getElem?_eq_some_iff.1 hj).1 hj])]
  rfl
theorem nod_hit (l : List Unt) (k : Nat) (s : Bytes) (p : Unt) (h : ∀ j q, j < k → l[j]? = some q → (q.name == s && !q.contract) = false) (hp : l[k]? = some p) (hs : (p.name == s && !p.contract) = true) : nodOf l s = some (p.ins.map (·.ty), p.out.ty) := by
  have hk := (List.getElem?_eq_some_iff.1 hp).1
  have e : l = l.take k ++ p :: l.drop (k + 1) := by rw [← drop_at' hp, List.take_append_drop]
  unfold nodOf
  rw [e, List.find?_append, List.find?_eq_none.2 (fun q hq => by
    obtain ⟨j, hj⟩ := List.mem_iff_getElem?.1 hq
    have hjl := (List.getElem?_eq_some_iff.1 hj).1
    rw [List.length_take] at hjl
    rw [List.getElem?_take_of_lt (by omega)] at hj
    simp only [h j q (by omega) hj]; simp)]
  simp only [List.find?_cons, hs]; rfl
theorem nod_miss (l : List Unt) (s : Bytes) (h : ∀ j q, j < l.length → l[j]? = some q → (q.name == s && !q.contract) = false) : nodOf l s = none := by
  unfold nodOf
  rw [List.find?_eq_none.2 (fun q hq => by
    obtain ⟨j, hj⟩ := List.mem_iff_getElem?.1 hq
    simp only [h j q (List.getElem?_eq_some_iff.1 hj).1 hj]; simp)]
  rfl
theorem strs_beq (a b : Bytes) : ((str a).toList == (str b).toList) = (a == b) := by rw [str_toList, str_toList]
theorem ret_ib {a a' : Int} {b b' : Bool} (h : (a, b) = (a', b')) : Ending.returned (.tuple #[.int .i64 a, .bool b]) = .returned (.tuple #[.int .i64 a', .bool b']) := by cases h; rfl
def strB (x : Option Int) : Int × Bool := match x with | some t => (t, true) | none => (0, false)
set_option maxHeartbeats 1600000 in
theorem rstream_any (v : Value) (l : List Prm) (s : Bytes) (w : World) (hv : RowN 2 PrmN w l v) : Calls Tryz.prog 19 #[v, .string (str s)] w fun e w' => e = .returned (.tuple #[.int .i64 (strB (strOf l s)).1, .bool (strB (strOf l s)).2]) ∧ w' = w := by
  have HV := Lib.hid hv
  obtain ⟨A, c, rfl, h1, h2, -⟩ := rown_form hv
  unfold maxLen at h2
  obtain ⟨⟨ra, rb⟩, hR⟩ : ∃ R, strB (strOf l s) = R := ⟨_, rfl⟩
  have HRR := Lib.hid hR
  rw [hR]
  clear hv hR
  go_enter Tryz.func19, Tryz.ntmps19
  go_wp2
  go_loop [6] (fun i => ∃ k : Nat, k ≤ l.length ∧ i = .int .i64 k ∧ Hid (∀ j q, j < k → l[j]? = some q → (q.name == s) = false)) (fun i => l.length - (intOf i).toNat)
  case atStart => exact ⟨0, Nat.zero_le _, rfl, Lib.hid (fun j q hj _ => by omega)⟩
  case round =>
    obtain ⟨k, hk, rfl, hn⟩ := hrel
    by_cases hlt : k < l.length
    · obtain ⟨p, hp⟩ : ∃ p, l[k]? = some p := ⟨_, List.getElem?_eq_getElem hlt⟩
      obtain ⟨g, o, c', x, hv', hg, hpx, hxl, hcell⟩ := rown_at HV.out hp
      simp only [Value.slice.injEq, true_and] at hv'
      obtain ⟨rfl, rfl⟩ := hv'
      obtain ⟨rfl, -⟩ := hpx
      have q0 : w.cell? ⟨g, o + k * 2 + 0, none⟩ = some (.string (str p.name)) := hcell 0 (by omega)
      have q1 : w.cell? ⟨g, o + k * 2 + 1, none⟩ = some (.int .i64 p.ty) := hcell 1 (by omega)
      rw [Nat.add_zero] at q0
      have HP := Lib.hid hp
      obtain ⟨nm, ty⟩ := p
      simp only at q0 q1
      clear hp hcell
      rcases Bool.eq_false_or_eq_true (nm == s) with hq | hq
      · have HR : Hid (strOf l s = some ty) := Lib.hid (str_hit l k s ⟨nm, ty⟩ hn.out HP.out hq)
        have hb : ((str nm).toList == (str s).toList) = true := by rw [strs_beq]; exact hq
        have HX : Hid ((ty, true) = (ra, rb)) := Lib.hid (by rw [← HRR.out, HR.out]; rfl)
        clear hq
        go_wp2
        go_ret2
        exact ⟨ret_ib HX.out, rfl⟩
      · have HN : Hid (∀ j q, j < k + 1 → l[j]? = some q → (q.name == s) = false) := Lib.hid (fun j q hj hjq => by
          by_cases hjk : j = k
          · subst hjk
            rw [HP.out] at hjq; cases hjq; exact hq
          · exact hn.out j q (by omega) hjq)
        have hb : ((str nm).toList == (str s).toList) = false := by rw [strs_beq]; exact hq
        clear hq
        go_wp2
        refine ⟨⟨k + 1, by omega, by go_num, HN⟩, by simp [intOf]; omega⟩
    · have hkl : k = l.length := by omega
      subst hkl
      have HR : Hid (strOf l s = none) := Lib.hid (str_miss l s hn.out)
      have HX : Hid (((0 : Int), false) = (ra, rb)) := Lib.hid (by rw [← HRR.out, HR.out]; rfl)
      go_wp2
      go_ret2
      exact ⟨ret_ib HX.out, rfl⟩
def IdxOk (us : List Unt) (s : Bytes) (r : Int) : Prop := (r = -1 ∧ nodOf us s = none) ∨ ∃ (k : Nat) (u : Unt), r = (k : Int) ∧ us[k]? = some u ∧ nodOf us s = some (u.ins.map (·.ty), u.out.ty)
set_option maxHeartbeats 1600000 in
theorem rNode_any (v : Value) (us : List Unt) (s : Bytes) (w : World) (hv : RowN 8 UntN w us v) : Calls Tryz.prog 107 #[v, .string (str s)] w fun e w' => ∃ r, e = .returned (.int .i64 r) ∧ IdxOk us s r ∧ w' = w := by
  have HV := Lib.hid hv
  obtain ⟨A, c, rfl, h1, h2, -⟩ := rown_form hv
  unfold maxLen at h2
  clear hv
  go_enter Tryz.func107, Tryz.ntmps107
  go_wp2
  go_loop [5] (fun i => ∃ k : Nat, k ≤ us.length ∧ i = .int .i64 k ∧ Hid (∀ j q, j < k → us[j]? = some q → (q.name == s && !q.contract) = false)) (fun i => us.length - (intOf i).toNat)
  case atStart => exact ⟨0, Nat.zero_le _, rfl, Lib.hid (fun j q hj _ => by omega)⟩
  case round =>
    obtain ⟨k, hk, rfl, hn⟩ := hrel
    by_cases hlt : k < us.length
    · obtain ⟨p, hp⟩ : ∃ p, us[k]? = some p := ⟨_, List.getElem?_eq_getElem hlt⟩
      obtain ⟨g, o, c', x, hv', hg, hpx, hxl, hcell⟩ := rown_at HV.out hp
      simp only [Value.slice.injEq, true_and] at hv'
      obtain ⟨rfl, rfl⟩ := hv'
      obtain ⟨iv, vv, qv, lv, rfl, -⟩ := hpx
      have q0 : w.cell? ⟨g, o + k * 8 + 0, none⟩ = some (.bool p.contract) := hcell 0 (by omega)
      have q1 : w.cell? ⟨g, o + k * 8 + 1, none⟩ = some (.string (str p.name)) := hcell 1 (by omega)
      rw [Nat.add_zero] at q0
      have HP := Lib.hid hp
      have HNN : Hid ((p.name == s && !p.contract) = false → ∀ j q, j < k + 1 → us[j]? = some q → (q.name == s && !q.contract) = false) := Lib.hid (fun hq j q hj hjq => by
          by_cases hjk : j = k
          · subst hjk
            rw [HP.out] at hjq; cases hjq; exact hq
          · exact hn.out j q (by omega) hjq)
      clear hp hcell
      rcases Bool.eq_false_or_eq_true (p.name == s) with hq | hq
      · have hb : ((str p.name).toList == (str s).toList) = true := by rw [strs_beq]; exact hq
        cases hc : p.contract with
        | true =>
          have HN := Lib.hid (HNN.out (by rw [hc]; simp))
          rw [hc] at q0
          clear hq hc
          go_wp2
          refine ⟨⟨k + 1, by omega, by go_num, HN⟩, by simp [intOf]; omega⟩
        | false =>
          have HR : Hid (nodOf us s = some (p.ins.map (·.ty), p.out.ty)) := Lib.hid (nod_hit us k s p hn.out HP.out (by rw [hq, hc]; rfl))
          rw [hc] at q0
          clear hq hc
          go_wp2
          go_ret
          exact ⟨_, rfl, .inr ⟨k, p, rfl, HP.out, HR.out⟩, rfl⟩
      · have HN := Lib.hid (HNN.out (by rw [hq]; rfl))
        have hb : ((str p.name).toList == (str s).toList) = false := by rw [strs_beq]; exact hq
        clear hq
        go_wp2
        refine ⟨⟨k + 1, by omega, by go_num, HN⟩, by simp [intOf]; omega⟩
    · have hkl : k = us.length := by omega
      subst hkl
      have HR : Hid (nodOf us s = none) := Lib.hid (nod_miss us s hn.out)
      go_wp2
      go_ret
      exact ⟨_, rfl, .inl ⟨rfl, HR.out⟩, rfl⟩
set_option maxHeartbeats 1600000 in
theorem rArgs_any (v : Value) (e : List Nd) (i : Nat) (x : Nd) (w : World) (hv : Nodes w v e) (he : e.length ≤ 5000) (hg : ∀ i x, e[i]? = some x → Tr.Good e i x) (hx : e[i]? = some x) (ha : IsArgs e i x.a) :
    Calls Tryz.prog 108 #[v, .int .i64 (i : Int)] w fun r w' => r = .returned (.int .i64 ((argsAt e x.a).length : Nat)) ∧ w' = w := by
  have HG := Lib.hid hg
  have hil := (List.getElem?_eq_some_iff.1 hx).1
  have hal := argsAt_len hg i x.a (by omega) ha
  obtain ⟨N, hN⟩ : ∃ N, (argsAt e x.a).length = N := ⟨_, rfl⟩
  have HN := Lib.hid hN
  rw [hN] at hal ⊢
  obtain ⟨A, c, rfl, h1, h2, hA⟩ := hv
  unfold maxLen at h2
  have HA := Lib.hid hA
  obtain ⟨g, o, rfl, hgl, a0, a1, -⟩ := hA i x hx
  have HA0 := Lib.hid ha
  obtain ⟨xa, hxa⟩ : ∃ a, x.a = a := ⟨_, rfl⟩
  rw [hxa] at a1 HN HA0
  clear hA hN hg ha hx hxa a0
  go_enter Tryz.func108, Tryz.ntmps108
  go_wp2
  go_loop [5, 6] (fun n k => ∃ (m : Nat) (kk : Int), n = .int .i64 (m : Int) ∧ k = .int .i64 kk ∧ IsArgs e i kk ∧ Hid ((argsAt e kk).length + m = N)) (fun _ k => (intOf k + 1).toNat)
  case atStart => exact ⟨0, xa, rfl, rfl, HA0.out, Lib.hid (by rw [HN.out]; rfl)⟩
  case round =>
    obtain ⟨m, kk, rfl, rfl, hia, hap⟩ := hrel
    have hml : m ≤ N := by have := hap.out; omega
    rcases hia with rfl | ⟨k0, k1, k2⟩
    · have hmN : m = N := by have := hap.out; rw [argsAt_none] at this; simpa using this
      subst hmN
      go_wp2
      go_ret
      exact ⟨rfl, rfl⟩
    · obtain ⟨q, rfl⟩ := Int.eq_ofNat_of_zero_le k0
      have hql : q < e.length := by omega
      have hq : e[q]? = some (e.getD q default) := of_getD hql
      obtain ⟨y, hy⟩ : ∃ y, e.getD q default = y := ⟨_, rfl⟩
      have h28 : y.op = 28 := by rw [← hy]; simpa [Tr.opAt] using k2
      rw [hy] at hq
      obtain ⟨hnb, na, nb⟩ := args_next (HG.out q y hq) h28
      have hst := argsAt_step HG.out hq h28
      obtain ⟨g', o', hgo, hg', -, -, b2, -⟩ := HA.out q y hq
      simp only [Option.some.injEq, Addr.mk.injEq, and_true] at hgo
      obtain ⟨rfl, rfl⟩ := hgo
      have HNX : Hid ((argsAt e y.b).length + (m + 1) = N) := Lib.hid (by
        have := hap.out
        rw [hst, List.length_append] at this
        simp only [List.length_cons, List.length_nil] at this
        omega)
      have HIA : Hid (IsArgs e i y.b) := Lib.hid (by
        rcases hnb with h | ⟨q0, q1, q2⟩
        · exact .inl h
        · exact .inr ⟨q0, by omega, q2⟩)
      have HMS : Hid ((y.b + 1).toNat < ((q : Int) + 1).toNat) := Lib.hid (by rcases hnb with h | ⟨q0, q1, q2⟩ <;> omega)
      have hm1 : m + 1 ≤ N := by have := HNX.out; omega
      obtain ⟨yb, hyb⟩ : ∃ yb, y.b = yb := ⟨_, rfl⟩
      rw [hyb] at b2 HNX HIA HMS
      clear hq hy h28 hnb na nb hst hyb hap k2 k0
      go_wp2
      refine ⟨⟨m + 1, yb, by go_num, rfl, HIA.out, HNX⟩, ?_⟩
      simp [intOf]
      have := HMS.out
      omega
end Go.Proofs.YtobkcdkffcenbaaGreatDoor.Ty

/- The document's functions of layer types: one, both, call. Conditions: the expression may be. -/
namespace Go.Proofs.YtobkcdkffcenbaaGreatDoor.Ty
open Go.ChangeShapes Go.WideShapes Go.ChangeAt Go.RowKit
open Go.Proofs.YtobkcdkffcenbaaGreatDoor.Tr
open Go.Proofs.YtobkcdkffcenbaaGreatDoor.Pg (Prm Unt)
open Go.Proofs.YtobkcdkffcenbaaGreatDoor.Ow (PrmN UntN RowN rown_at rown_form)
def oneR (b : Bool) (t : Int) : Int × Int := if b = true then (t, 0) else (0, 10)
theorem one_any (b : Bool) (t : Int) (w : World) : Calls Tryz.prog 101 #[.bool b, .int .i64 t] w fun e w' => e = .returned (.tuple #[.int .i64 (oneR b t).1, .int .i64 (oneR b t).2]) ∧ w' = w := by
  cases b with
  | true =>
    go_enter Tryz.func101, Tryz.ntmps101
    go_wp2
    go_ret2
    exact ⟨rfl, rfl⟩
  | false =>
    go_enter Tryz.func101, Tryz.ntmps101
    go_wp2
    go_ret2
    exact ⟨rfl, rfl⟩
def allW (L : List Int) (N : List Int) (t : Int) : Bool := N.all fun k => L.getD k.toNat 0 == t
def BoolPost (w : World) (b : Bool) (e : Ending) (w' : World) : Prop := e = .returned (.bool b) ∧ Below w.heap.size w w'
theorem all_no {L N : List Int} {t : Int} {k : Nat} {x : Int} (h : N[k]? = some x) (hx : (L.getD x.toNat 0 == t) = false) : allW L N t = false := by
  unfold allW
  rw [List.all_eq_false]
  exact ⟨x, List.mem_of_getElem? h, by rw [hx]; simp⟩
theorem all_yes {L N : List Int} {t : Int} (h : ∀ (k : Nat) (x : Int), N[k]? = some x → (L.getD x.toNat 0 == t) = true) : allW L N t = true := by
  unfold allW
  rw [List.all_eq_true]
  intro x hx
  obtain ⟨k, hk⟩ := List.mem_iff_getElem?.1 hx
  exact h k x hk
set_option maxRecDepth 100000 in
set_option maxHeartbeats 4000000 in
theorem both_any (v tv : Value) (e : List Nd) (L : List Int) (i : Nat) (x : Nd) (t : Int) (w : World) (hv : Nodes w v e) (ht : Ints w tv L) (hx : e[i]? = some x) (hk : ∀ k ∈ kidsM x, 0 ≤ k ∧ k < L.length) :
    Calls Tryz.prog 102 #[v, .int .i64 (i : Int), tv, .int .i64 t] w (BoolPost w (allW L (kidsM x) t)) := by
  have hil := (List.getElem?_eq_some_iff.1 hx).1
  have HT := Lib.hid ht
  obtain ⟨A, c, rfl, h1, h2, hA⟩ := hv
  obtain ⟨B, d, rfl, h3, h4, hB⟩ := ht
  unfold maxLen at h2 h4
  obtain ⟨g, o, rfl, hg, a0, a1, a2, a3, a4, a5⟩ := hA i x hx
  have HB := Lib.hid hB
  have HK := Lib.hid hk
  obtain ⟨R, hR⟩ : ∃ R, allW L (kidsM x) t = R := ⟨_, rfl⟩
  have HR := Lib.hid hR
  rw [hR]
  have HC := Lib.hid (rkids_any x w)
  have HKL := Lib.hid (kids_small x)
  obtain ⟨KL, hKL⟩ : ∃ K, kidsM x = K := ⟨_, rfl⟩
  rw [hKL] at HK HR HC HKL
  obtain ⟨op, a, b, cc, n, nm⟩ := x
  simp only at a0 a1 a2 a3 a4 a5 HC
  clear hA hB hk hx hR hKL
  go_enter Tryz.func102, Tryz.ntmps102
  go_wp2_with fail
  refine HC.out.mono ?_
  rintro r w1 ⟨kv, rfl, hown, hb1⟩
  have HB1 := Lib.hid hb1
  have HI := Lib.hid (Ints.of_own hown)
  obtain ⟨A2, c2, rfl, y1, y2, hA2⟩ := Ints.of_own hown
  unfold maxLen at y2
  have HA2 := Lib.hid hA2
  have hs1 := hb1.size
  clear hown hb1 hA2 a0 a1 a2 a3 a4 a5
  go_wp2
  go_loop [10] (fun i => ∃ k : Nat, k ≤ KL.length ∧ i = .int .i64 k ∧ Hid (∀ (j : Nat) (x : Int), j < k → KL[j]? = some x → (L.getD x.toNat 0 == t) = true)) (fun i => KL.length - (intOf i).toNat)
  case atStart => exact ⟨0, Nat.zero_le _, rfl, Lib.hid (fun j x hj _ => by omega)⟩
  case round =>
    obtain ⟨k, hk, rfl, hn⟩ := hrel
    by_cases hlt : k < KL.length
    · obtain ⟨q, hq⟩ : ∃ q, KL[k]? = some q := ⟨_, List.getElem?_eq_getElem hlt⟩
      obtain ⟨g2, o2, rfl, hg2, d0⟩ := HA2.out k q hq
      have hqk := HK.out q (List.mem_of_getElem? hq)
      obtain ⟨m, rfl⟩ := Int.eq_ofNat_of_zero_le hqk.1
      have hml : m < L.length := by omega
      obtain ⟨y, hy⟩ : ∃ y, L[m]? = some y := ⟨_, List.getElem?_eq_getElem hml⟩
      obtain ⟨g3, o3, rfl, hg3, d1'⟩ := HB.out m y hy
      have d1 := (HB1.out.cell (p := ⟨g3, o3 + m, none⟩) hg3).trans d1'
      have hg3' : g3 < w1.heap.size := by omega
      have HQ := Lib.hid hq
      have HY : Hid (L.getD (Int.toNat (m : Int)) 0 = y) := Lib.hid (by simp [List.getD, hy])
      clear hq hy d1'
      by_cases hyt : y = t
      · have hb : (y != t) = false := by simp [hyt]
        have HN : Hid (∀ (j : Nat) (x : Int), j < k + 1 → KL[j]? = some x → (L.getD x.toNat 0 == t) = true) := Lib.hid (fun j x hj hjx => by
          by_cases hjk : j = k
          · subst hjk
            rw [HQ.out] at hjx; cases hjx
            rw [HY.out, hyt]; simp
          · exact hn.out j x (by omega) hjx)
        clear hyt
        go_wp2
        refine ⟨⟨k + 1, by omega, by go_num, HN⟩, by simp [intOf]; omega⟩
      · have hb : (y != t) = true := by simpa using hyt
        have HN : Hid (R = false) := Lib.hid (by rw [← HR.out]; exact all_no HQ.out (by rw [HY.out]; simpa using hyt))
        clear hyt
        go_wp2
        go_ret
        exact ⟨by rw [HN.out]; rfl, HB1.out⟩
    · have HN : Hid (R = true) := Lib.hid (by rw [← HR.out]; exact all_yes (fun j x hj => hn.out j x (by have := (List.getElem?_eq_some_iff.1 hj).1; omega) hj))
      go_wp2
      go_ret
      exact ⟨by rw [HN.out]; rfl, HB1.out⟩
set_option maxRecDepth 100000 in
set_option maxHeartbeats 8000000 in
theorem rcall_any (v tv uv : Value) (e : List Nd) (L : List Int) (us : List Unt) (i : Nat) (x : Nd) (w : World) (hv : Nodes w v e) (ht : Ints w tv L) (hu : RowN 8 UntN w us uv) (he : e.length ≤ 5000) (hL : e.length ≤ L.length)
    (hg : ∀ i x, e[i]? = some x → Tr.Good e i x) (hx : e[i]? = some x) (h27 : x.op = 27) (hs : x.name.length ≤ maxLen) :
    Calls Tryz.prog 100 #[v, .int .i64 (i : Int), tv, uv] w (TwoPost w (callR (nodOf us x.name) (pickM L (argsAt e x.a)))) := by
  have hil := (List.getElem?_eq_some_iff.1 hx).1
  have hia := call_args (hg i x hx) h27
  have HG := Lib.hid hg
  have HU := Lib.hid hu
  have HIA := Lib.hid hia
  have HALT := Lib.hid (argsAt_lt hg i x.a (by omega) hia)
  have HN0 := Lib.hid (rNode_any uv us x.name w hu)
  have HARG : Hid (∀ n, Calls Tryz.prog 108 #[v, .int .i64 (i : Int)] (w.drewN n) fun r w' => r = .returned (.int .i64 ((argsAt e x.a).length : Nat)) ∧ w' = w.drewN n) := Lib.hid (fun n => rArgs_any v e i x (w.drewN n) (hv.below (Tr.below_drewN (Below.refl _ _) n) (Nat.le_refl _)) he hg hx hia)
  obtain ⟨R, hR⟩ : ∃ R, callR (nodOf us x.name) (pickM L (argsAt e x.a)) = R := ⟨_, rfl⟩
  have HR := Lib.hid hR
  rw [hR]
  obtain ⟨A, c, rfl, h1, h2, hA⟩ := hv
  obtain ⟨B, d, rfl, h3, h4, hB⟩ := ht
  obtain ⟨C, f, rfl, h5, h6, -⟩ := rown_form hu
  unfold maxLen at h2 h4 h6
  obtain ⟨g, o, rfl, hgl, a0, a1, a2, a3, a4, a5⟩ := hA i x hx
  have HA := Lib.hid hA
  have HB := Lib.hid hB
  have hall := argsAt_len hg i x.a (by omega) hia
  obtain ⟨AA, hAA⟩ : ∃ AA, argsAt e x.a = AA := ⟨_, rfl⟩
  have HAA := Lib.hid hAA
  rw [hAA] at HARG HR hall HALT
  obtain ⟨nm, hnm⟩ : ∃ n, x.name = n := ⟨_, rfl⟩
  obtain ⟨xa, hxa⟩ : ∃ a, x.a = a := ⟨_, rfl⟩
  rw [hnm] at HN0 HR a5
  rw [hxa] at HAA HIA a1
  clear hA hB hu hx hg hR hAA hnm hxa hia hs h27 a0 a2 a3 a4
  go_enter Tryz.func100, Tryz.ntmps100
  go_wp2_with fail
  refine HN0.out.mono ?_
  rintro r w1 ⟨kx, rfl, hidx, rfl⟩
  rcases hidx with ⟨rfl, hnone⟩ | ⟨k, u, rfl, hu, hsome⟩
  · have HE : Hid (R = (0, 14)) := Lib.hid (by rw [← HR.out, hnone]; rfl)
    clear hnone
    go_wp2_with fail
    go_quiet ((go_at_call 108; exact Calls.quiet_of_same (HARG.out _)))
    go_wp2
    go_ret2
    exact two_of HE.out (Tr.below_drewN (Below.refl _ _) _)
  · have hkl := (List.getElem?_eq_some_iff.1 hu).1
    obtain ⟨gu, ou, c', xs, hv', hgu, hux, hxl, hcell⟩ := rown_at HU.out hu
    simp only [Value.slice.injEq, true_and] at hv'
    obtain ⟨rfl, rfl⟩ := hv'
    obtain ⟨iv, vv, qv, lv, rfl, z1, -⟩ := hux
    have HZ1 := Lib.hid z1
    obtain ⟨Ai, ci, rfl, i1, i2, -⟩ := rown_form z1
    unfold maxLen at i2
    have q2 : w1.cell? ⟨gu, ou + k * 8 + 2, none⟩ = some (.slice Ai u.ins.length ci) := hcell 2 (by omega)
    have q4 : w1.cell? ⟨gu, ou + k * 8 + 4, none⟩ = some (.int .i64 u.out.ty) := hcell 4 (by omega)
    have HS := Lib.hid hsome
    have hki : (k : Int) < (us.length : Int) := by omega
    have hk0 : (0 : Int) ≤ (k : Int) := by omega
    have hkneg : decide ((k : Int) < 0) = false := decide_eq_false (by omega)
    clear hu hcell z1 hsome
    by_cases hlen : u.ins.length = AA.length
    rotate_left
    · have HE : Hid (R = (0, 14)) := Lib.hid (by
        rw [← HR.out, HS.out]
        unfold callR callY pickM
        simp only [List.length_map]
        rw [if_pos hlen]; rfl)
      have hb : ((u.ins.length : Int) != (AA.length : Int)) = true := by simpa using (fun h => hlen (by omega))
      have hb' : (u.ins.length != AA.length) = true := by simpa using hlen
      clear hlen
      go_wp2_with fail
      go_quiet ((go_at_call 108; exact Calls.quiet_of_same (HARG.out _)))
      go_wp2
      go_ret2
      exact two_of HE.out (Tr.below_drewN (Below.refl _ _) _)
    have hb : ((u.ins.length : Int) != (AA.length : Int)) = false := by simp; omega
    have hb' : (u.ins.length != AA.length) = false := by simp [hlen]
    have HLEN := Lib.hid hlen
    clear hlen
    go_wp2_with fail
    go_quiet ((go_at_call 108; exact Calls.quiet_of_same (HARG.out _)))
    go_wp2
    go_loopw [11, 12] (fun at' a' wr => ∃ (kk : Int) (S : List Int), a' = .int .i64 kk ∧ at' = .int .i64 (((argsAt e kk).length : Int) - 1) ∧ IsArgs e i kk ∧ Hid (AA = argsAt e kk ++ S) ∧ Hid ((u.ins.map (·.ty)).drop (argsAt e kk).length = pickM L S) ∧ Below w1.heap.size w1 wr) (fun _ a' _ => (intOf a' + 1).toNat)
    case atStart => exact ⟨xa, [], rfl, by rw [HAA.out, ← HLEN.out], HIA.out, Lib.hid (by rw [HAA.out, List.append_nil]), Lib.hid (by rw [HAA.out, ← HLEN.out, List.drop_of_length_le (by simp)]; rfl), Tr.below_drewN (Below.refl _ _) _⟩
    case round =>
      obtain ⟨kk, S, rfl, rfl, hia, hap, hdr, hb1⟩ := hrel
      have HB1 := Lib.hid hb1
      rcases hia with rfl | ⟨k0, k1, k2⟩
      · have HE : Hid (R = (u.out.ty, 0)) := Lib.hid (by
          have h1 := hap.out
          have h2 := hdr.out
          rw [argsAt_none] at h1 h2
          rw [List.nil_append] at h1
          rw [List.length_nil, List.drop_zero] at h2
          rw [← HR.out, HS.out]
          unfold callR callY
          simp only [List.length_map]
          rw [if_neg (by unfold pickM; rw [List.length_map]; exact fun h => h HLEN.out), if_neg (by rw [h1]; exact fun h => h h2)]
          rfl)
        have q4' : wr.cell? ⟨gu, ou + k * 8 + 4, none⟩ = some (.int .i64 u.out.ty) := (hb1.cell (p := ⟨gu, _, none⟩) hgu).trans q4
        clear hb1 hap hdr
        go_wp2
        go_ret2
        exact two_of HE.out HB1.out
      · obtain ⟨q, rfl⟩ := Int.eq_ofNat_of_zero_le k0
        have hql : q < e.length := by omega
        have hq : e[q]? = some (e.getD q default) := of_getD hql
        obtain ⟨y, hy⟩ : ∃ y, e.getD q default = y := ⟨_, rfl⟩
        have h28 : y.op = 28 := by rw [← hy]; simpa [Tr.opAt] using k2
        rw [hy] at hq
        obtain ⟨hnb, na, nb⟩ := args_next (HG.out q y hq) h28
        have hst := argsAt_step HG.out hq h28
        obtain ⟨g', o', hgo, hg', -, b1, b2, -⟩ := HA.out q y hq
        simp only [Option.some.injEq, Addr.mk.injEq, and_true] at hgo
        obtain ⟨rfl, rfl⟩ := hgo
        have e1 := (hb1.cell (p := ⟨g, o + q * 6 + 1, none⟩) hgl).trans b1
        have e2 := (hb1.cell (p := ⟨g, o + q * 6 + 2, none⟩) hgl).trans b2
        obtain ⟨m, hm⟩ := Int.eq_ofNat_of_zero_le na
        have hml : m < L.length := by omega
        obtain ⟨z, hz⟩ : ∃ z, L[m]? = some z := ⟨_, List.getElem?_eq_getElem hml⟩
        obtain ⟨g3, o3, rfl, hg3, d1'⟩ := HB.out m z hz
        have d1 := (hb1.cell (p := ⟨g3, o3 + m, none⟩) hg3).trans d1'
        have q2' : wr.cell? ⟨gu, ou + k * 8 + 2, none⟩ = some (.slice Ai u.ins.length ci) := (hb1.cell (p := ⟨gu, _, none⟩) hgu).trans q2
        obtain ⟨M, hM⟩ : ∃ M, (argsAt e y.b).length = M := ⟨_, rfl⟩
        have hlenq : (argsAt e (q : Int)).length = M + 1 := by rw [hst, List.length_append, hM]; rfl
        have hMl : M < u.ins.length := by
          have h1 := congrArg List.length hap.out
          rw [List.length_append, hlenq] at h1
          have := HLEN.out
          omega
        have hMe : ((argsAt e (q : Int)).length : Int) - 1 = (M : Int) := by rw [hlenq]; omega
        rw [hMe]
        obtain ⟨pp, hpp⟩ : ∃ p, u.ins[M]? = some p := ⟨_, List.getElem?_eq_getElem hMl⟩
        obtain ⟨gi, oi, c'', x', hvi, hgi, hpx, hxl', hcell'⟩ := rown_at HZ1.out hpp
        simp only [Value.slice.injEq, true_and] at hvi
        obtain ⟨rfl, rfl⟩ := hvi
        have r1 : wr.cell? ⟨gi, oi + M * 2 + 1, none⟩ = some (.int .i64 pp.ty) := (hb1.cell (p := ⟨gi, _, none⟩) hgi).trans ((hcell' 1 (by omega)).trans (by rw [hpx.1]; rfl))
        have HDR : Hid (pp.ty = z → (u.ins.map (·.ty)).drop (argsAt e y.b).length = pickM L (y.a :: S)) := Lib.hid (fun hpz => by
          have h2 := hdr.out
          rw [hlenq] at h2
          have hmm : (u.ins.map (·.ty))[M]? = some pp.ty := by rw [List.getElem?_map, hpp]; rfl
          rw [hM, drop_at' hmm, h2]
          show pp.ty :: pickM L S = L.getD y.a.toNat 0 :: pickM L S
          rw [hpz, hm]
          simp [List.getD, hz])
        have HNE : Hid (pp.ty ≠ z → R = (0, 10)) := Lib.hid (fun hpz => by
          rw [← HR.out, HS.out]
          unfold callR callY
          simp only [List.length_map]
          rw [if_neg (by unfold pickM; rw [List.length_map]; exact fun h => h HLEN.out), if_pos (fun h => hpz (by
            have hmm : (u.ins.map (·.ty))[M]? = some pp.ty := by rw [List.getElem?_map, hpp]; rfl
            rw [h] at hmm
            have h3 : AA[M]? = some y.a := by
              rw [hap.out, hst, List.append_assoc, List.getElem?_append_right (by omega), hM, Nat.sub_self]; rfl
            unfold pickM at hmm
            rw [List.getElem?_map, h3, hm] at hmm
            simp [List.getD, hz] at hmm
            exact hmm.symm))]
          rfl)
        have HAP : Hid (AA = argsAt e y.b ++ (y.a :: S)) := Lib.hid (by rw [hap.out, hst, List.append_assoc]; rfl)
        have HIA2 : Hid (IsArgs e i y.b) := Lib.hid (by
          rcases hnb with h | ⟨q0, q1, q2⟩
          · exact .inl h
          · exact .inr ⟨q0, by omega, q2⟩)
        have HMS : Hid ((y.b + 1).toNat < ((q : Int) + 1).toNat) := Lib.hid (by rcases hnb with h | ⟨q0, q1, q2⟩ <;> omega)
        have HMM : Hid ((argsAt e y.b).length = M) := Lib.hid hM
        have hgr : g < wr.heap.size ∧ g3 < wr.heap.size ∧ gu < wr.heap.size ∧ gi < wr.heap.size := by have := hb1.size; omega
        obtain ⟨gr1, gr2, gr3, gr4⟩ := hgr
        obtain ⟨yb, hyb⟩ : ∃ b, y.b = b := ⟨_, rfl⟩
        obtain ⟨ya, hya⟩ : ∃ b, y.a = b := ⟨_, rfl⟩
        rw [hyb] at e2 HDR HAP HIA2 HMS HMM
        rw [hya] at e1 HDR HAP hm
        subst hm
        obtain ⟨pt, hpt⟩ : ∃ t, pp.ty = t := ⟨_, rfl⟩
        rw [hpt] at r1 HDR HNE
        have hMi : (M : Int) < (u.ins.length : Int) := by omega
        have hqi : (q : Int) < (e.length : Int) := by omega
        have hmi : (m : Int) < (L.length : Int) := by omega
        clear hq hy h28 hst b1 b2 hz d1' hM hlenq hMe hpp hpx hcell' hxl' hyb hya hpt hap hdr hb1 k2 hnb na nb
        by_cases hzp : z = pt
        · have hbb : (z != pt) = false := by simp [hzp]
          have HD2 := Lib.hid (HDR.out hzp.symm)
          clear hzp
          go_wp2
          go_quiet (fail)
          go_wp2
          refine ⟨⟨yb, (m : Int) :: S, rfl, by first | rfl | (rw [HMM.out]; congr 1; omega) | (rw [HMM.out]), HIA2.out, HAP, HD2, Tr.below_drewN HB1.out _⟩, ?_⟩
          simp [intOf]
          have := HMS.out
          omega
        · have hbb : (z != pt) = true := by simpa using hzp
          have HD2 := Lib.hid (HNE.out (fun h => hzp h.symm))
          clear hzp
          go_wp2
          go_quiet (fail)
          go_wp2
          go_ret2
          exact two_of HD2.out (Tr.below_drewN HB1.out _)
end Go.Proofs.YtobkcdkffcenbaaGreatDoor.Ty

/- The document's function node of layer types. Conditions: the expression may be. -/
namespace Go.Proofs.YtobkcdkffcenbaaGreatDoor.Ty
open Go.ChangeShapes Go.WideShapes Go.ChangeAt Go.RowKit
open Go.Proofs.YtobkcdkffcenbaaGreatDoor.Tr
open Go.Proofs.YtobkcdkffcenbaaGreatDoor.Pg (Prm Unt)
open Go.Proofs.YtobkcdkffcenbaaGreatDoor.Ow (PrmN UntN RowN rown_at rown_form)
def shR (op : Int) (l : List Int) : Int × Int := match shapeY op l with | .ok t => (t, 0) | .error c => (0, c)
noncomputable def nodeD (E : Env) (e : List Nd) (L : List Int) (x : Nd) : Int × Int :=
  if x.op = 1 then (2, 0) else if x.op = 2 then (1, 0) else if x.op = 28 then (0, 0) else if x.op = 3 then strR (E.str x.name) else if x.op = 27 then callR (E.nod x.name) (pickM L (argsAt e x.a)) else shR x.op (pickM L (kidsM x))
theorem all_pick (L N : List Int) (t : Int) : (pickM L N).all (· == t) = allW L N t := by unfold pickM allW; rw [List.all_map]; rfl
theorem sh_if (b : Bool) (t : Int) : (match (if b = true then Except.ok t else Except.error 10 : Except Int Int) with | .ok t => (t, (0 : Int)) | .error c => (0, c)) = oneR b t := by cases b <;> rfl
theorem shR_arith {op : Int} (h : op = 5 ∨ op = 14 ∨ op = 15 ∨ op = 16 ∨ op = 17 ∨ op = 18) (L N : List Int) : shR op (pickM L N) = oneR (allW L N 2) 2 := by
  rw [← all_pick, ← sh_if]
  unfold shR shapeY
  rcases h with rfl | rfl | rfl | rfl | rfl | rfl <;> rfl
theorem shR_less {op : Int} (h : op = 12 ∨ op = 13) (L N : List Int) : shR op (pickM L N) = oneR (allW L N 2) 1 := by
  rw [← all_pick, ← sh_if]
  unfold shR shapeY
  rcases h with rfl | rfl <;> rfl
theorem shR_truth {op : Int} (h : op = 4 ∨ op = 6 ∨ op = 7 ∨ op = 8 ∨ op = 9 ∨ op = 20 ∨ op = 22 ∨ op = 23 ∨ op = 24 ∨ op = 25) (L N : List Int) : shR op (pickM L N) = oneR (allW L N 1) 1 := by
  rw [← all_pick, ← sh_if]
  unfold shR shapeY
  rcases h with rfl | rfl | rfl | rfl | rfl | rfl | rfl | rfl | rfl | rfl <;> rfl
theorem shR_same {op : Int} (h : op = 10 ∨ op = 11) (a b : Int) : shR op [a, b] = oneR (a == b) 1 := by
  unfold shR shapeY
  rcases h with rfl | rfl <;> by_cases hab : a = b <;> simp [hab, oneR]
theorem shR_arrow (a b : Int) : shR 19 [a, b] = oneR (a == b) a := by
  unfold shR shapeY
  by_cases hab : a = b <;> simp [hab, oneR]
theorem shR_pre (a : Int) : shR 21 [a] = (a, 0) := rfl
theorem shR_if (a b c : Int) : shR 26 [a, b, c] = oneR (a == 1 && b == c) b := by
  unfold shR shapeY
  by_cases ha : a = 1 <;> by_cases hbc : b = c <;> simp [ha, hbc, oneR]
theorem nodeD_tree (E : Env) {l : List Nd} (hm : Tr.May l) (V : Nat → Ty) {k : Nat} {x : Nd} (hx : l[k]? = some x) (hV : OkTo E l V k) : nodeD E l (tyRow V k l.length) x = ansY (tyT E (tree l k)) := by
  have hk := (List.getElem?_eq_some_iff.1 hx).1
  have g := hm.node k x hx
  rw [tyT_step E hm.ahead hx V hV]
  unfold nodeD
  by_cases h1 : x.op = 1
  · rw [if_pos h1]; unfold stepY; rw [if_pos (show x.lab.op = 1 from h1)]; rfl
  rw [if_neg h1]
  by_cases h2 : x.op = 2
  · rw [if_pos h2]; unfold stepY; rw [if_neg (show ¬ x.lab.op = 1 from h1), if_pos (show x.lab.op = 2 from h2)]; rfl
  rw [if_neg h2]
  by_cases h28 : x.op = 28
  · rw [if_pos h28]; unfold stepY; rw [if_neg (show ¬ x.lab.op = 1 from h1), if_neg (show ¬ x.lab.op = 2 from h2), if_pos (show x.lab.op = 28 from h28)]; rfl
  rw [if_neg h28]
  by_cases h3 : x.op = 3
  · rw [if_pos h3]
    unfold stepY; rw [if_neg (show ¬ x.lab.op = 1 from h1), if_neg (show ¬ x.lab.op = 2 from h2), if_neg (show ¬ x.lab.op = 28 from h28), if_pos (show x.lab.op = 3 from h3)]
    show strR (E.str x.name) = ansY (varY (E.str x.name))
    cases E.str x.name <;> rfl
  rw [if_neg h3]
  by_cases h27 : x.op = 27
  · rw [if_pos h27, step_call E hm.node V hx h27 hV, pick_row (by omega) (argsAt_lt hm.node k x.a (by omega) (call_args g h27))]; rfl
  rw [if_neg h27, pick_row (by omega) (fun a ha => by have := g.ahead a ha; omega)]
  unfold stepY
  rw [if_neg (show ¬ x.lab.op = 1 from h1), if_neg (show ¬ x.lab.op = 2 from h2), if_neg (show ¬ x.lab.op = 28 from h28), if_neg (show ¬ x.lab.op = 3 from h3), if_neg (show ¬ x.lab.op = 27 from h27), List.map_map]
  show shR x.op ((kidsM x).map fun a => (V a.toNat).1) = ansY ((shapeY x.op ((kidsM x).map fun a => (V a.toNat).1)).map fun t => (t, []))
  generalize (kidsM x).map (fun a => (V a.toNat).1) = N
  unfold shR
  cases shapeY x.op N <;> rfl
end Go.Proofs.YtobkcdkffcenbaaGreatDoor.Ty

