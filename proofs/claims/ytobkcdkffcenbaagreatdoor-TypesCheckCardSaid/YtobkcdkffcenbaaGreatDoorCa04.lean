/- The function stands tells whether a node may stand behind others. Conditions: the slice is read as a list of nodes. -/
import Derived.Test.YtobkcdkffcenbaaGreatDoorCa03
import Derived.Deep.RegionHeld3
set_option linter.unusedVariables false
set_option linter.unusedSimpArgs false
namespace Go.Proofs.YtobkcdkffcenbaaGreatDoor.Tr
open Go.ChangeShapes Go.WideShapes Go.ChangeAt Go.RowKit
def kidB (a : List Nd) (x : Nd) (k : Int) : Bool := decide (0 ≤ k) && decide (k < (a.length : Int)) && ((opAt a k == 28) == takesM x k)
def standsM (a : List Nd) (x : Nd) : Bool := (kidsM x).all (kidB a x) && ((heldM [x.a, x.b, x.c]).length == (kidsM x).length)
theorem takes_lit (x : Nd) (k : Int) (b : Bool) (w : World) (h : takesM x k = b) : Calls Tryz.prog 103 #[.agg #[.int .i64 x.op, .int .i64 x.a, .int .i64 x.b, .int .i64 x.c, .int .i64 x.n, .string (str x.name)], .int .i64 k] w
    fun e w' => e = .returned (.bool b) ∧ Below w.heap.size w w' := by rw [← h]; exact takes_any x k w
theorem all_next {α : Type} (f : α → Bool) (l : List α) (j : Nat) (q : α) (h : l[j]? = some q) (ha : (l.take j).all f = true) (hf : f q = true) : (l.take (j + 1)).all f = true := by
  rw [List.take_add_one, h, List.all_append, ha]; simp [hf]
theorem all_stop {α : Type} (f : α → Bool) (l : List α) (j : Nat) (q : α) (h : l[j]? = some q) (hf : f q = false) : l.all f = false := by
  rw [List.all_eq_false]; exact ⟨q, List.mem_of_getElem? h, by simp [hf]⟩
set_option maxRecDepth 100000 in
set_option maxHeartbeats 4000000 in
theorem stands_any (v : Value) (a : List Nd) (x : Nd) (w : World) (hv : Nodes w v a) :
    Calls Tryz.prog 88 #[v, .agg #[.int .i64 x.op, .int .i64 x.a, .int .i64 x.b, .int .i64 x.c, .int .i64 x.n, .string (str x.name)]] w fun r w' => r = .returned (.bool (standsM a x)) ∧ Below w.heap.size w w' := by
  obtain ⟨A, c, rfl, h1, h2, hA⟩ := hv
  unfold maxLen at h2
  have HA := Lib.hid hA
  clear hA
  obtain ⟨L, hL⟩ : ∃ L, kidsM x = L := ⟨_, rfl⟩
  have HL := Lib.hid hL
  have HS := Lib.hid (show standsM a x = (L.all (kidB a x) && ((heldM [x.a, x.b, x.c]).length == L.length)) by unfold standsM; rw [hL])
  clear hL
  rw [HS.out]
  go_enter Tryz.func88, Tryz.ntmps88
  go_wp2_with fail
  refine (kids_any x _).mono ?_
  rintro r w2 ⟨kv, rfl, hok, hb2⟩
  rw [HL.out] at hok
  obtain ⟨A2, c2, rfl, y1, y2, hA2⟩ := Ints.of_own hok
  have HA2 := Lib.hid hA2
  have hz2 := hb2.size
  simp at hz2
  have HB2 := Lib.hid (((Below.refl _ _).alloc (Nat.le_refl _) _).trans (hb2.mono (B' := w.heap.size) (by simp)))
  have e0 : w2.cell? ⟨w.heap.size, 0, none⟩ = some (.int .i64 x.op) := (hb2.cell (by simp)).trans (by simp [World.cell?_alloc_at])
  have e1 : w2.cell? ⟨w.heap.size, 1, none⟩ = some (.int .i64 x.a) := (hb2.cell (by simp)).trans (by simp [World.cell?_alloc_at])
  have e2 : w2.cell? ⟨w.heap.size, 2, none⟩ = some (.int .i64 x.b) := (hb2.cell (by simp)).trans (by simp [World.cell?_alloc_at])
  have e3 : w2.cell? ⟨w.heap.size, 3, none⟩ = some (.int .i64 x.c) := (hb2.cell (by simp)).trans (by simp [World.cell?_alloc_at])
  have e4 : w2.cell? ⟨w.heap.size, 4, none⟩ = some (.int .i64 x.n) := (hb2.cell (by simp)).trans (by simp [World.cell?_alloc_at])
  have e5 : w2.cell? ⟨w.heap.size, 5, none⟩ = some (.string (str x.name)) := (hb2.cell (by simp)).trans (by simp [World.cell?_alloc_at])
  have E := Lib.hid (And.intro e0 (And.intro e1 (And.intro e2 (And.intro e3 (And.intro e4 e5)))))
  clear hok hA2 hb2 e0 e1 e2 e3 e4 e5
  unfold maxLen at y2
  go_wp2
  go_loopw [12] (fun c wr => ∃ j : Nat, j ≤ L.length ∧ c = .int .i64 j ∧ (L.take j).all (kidB a x) = true ∧ Below w2.heap.size w2 wr) (fun c _ => L.length - (intOf c).toNat)
  case atStart => exact ⟨0, Nat.zero_le _, rfl, by simp, Below.refl _ _⟩
  case round =>
    obtain ⟨j, hj, rfl, hall, hb⟩ := hrel
    have HALL := Lib.hid hall
    obtain ⟨e0, e1, e2, e3, e4, e5⟩ := E.out
    have hbz := hb.size
    have e0 := (hb.cell (p := ⟨w.heap.size, 0, none⟩) (by simp; omega)).trans e0
    have e1 := (hb.cell (p := ⟨w.heap.size, 1, none⟩) (by simp; omega)).trans e1
    have e2 := (hb.cell (p := ⟨w.heap.size, 2, none⟩) (by simp; omega)).trans e2
    have e3 := (hb.cell (p := ⟨w.heap.size, 3, none⟩) (by simp; omega)).trans e3
    have e4 := (hb.cell (p := ⟨w.heap.size, 4, none⟩) (by simp; omega)).trans e4
    have e5 := (hb.cell (p := ⟨w.heap.size, 5, none⟩) (by simp; omega)).trans e5
    have HBB := Lib.hid hb
    have hend := Lib.hid (HB2.out.trans (hb.mono (by omega)))
    clear hall
    by_cases hlj : j < L.length
    · obtain ⟨q, hq⟩ : ∃ q, L[j]? = some q := ⟨_, List.getElem?_eq_getElem hlj⟩
      obtain ⟨g2, o2, rfl, hg2, d0'⟩ := HA2.out j q hq
      have d0 := (hb.cell (p := ⟨g2, o2 + j, none⟩) hg2).trans d0'
      have HQ := Lib.hid hq
      clear hq d0' hb
      by_cases hq0 : q < 0
      · have hr := Lib.hid (all_stop (kidB a x) L j q HQ.out (by unfold kidB; rw [decide_eq_false (by omega)]; rfl))
        go_wp2
        go_quiet (fail)
        go_wp2
        go_ret
        exact ⟨by rw [hr.out]; rfl, below_drewN hend.out _⟩
      · by_cases hqa : q < (a.length : Int)
        · obtain ⟨m, rfl⟩ := Int.eq_ofNat_of_zero_le (show 0 ≤ q by omega)
          have hma : m < a.length := by omega
          obtain ⟨y, hy⟩ : ∃ y, a[m]? = some y := ⟨_, List.getElem?_eq_getElem hma⟩
          obtain ⟨g, o, rfl, hg, a0, a1, a2, a3, a4, a5⟩ := HA.out m y hy
          have b0 := (HBB.out.cell (p := ⟨g, o + m * 6, none⟩) (by simp; omega)).trans ((HB2.out.cell (p := ⟨g, o + m * 6, none⟩) hg).trans a0)
          have hgz : g < wr.heap.size := by omega
          have HO := Lib.hid (show opAt a (m : Int) = y.op by unfold opAt; rw [Int.toNat_natCast, getD_of hy])
          have hd0 : decide ((m : Int) < 0) = false := by simp
          have hd1 : decide ((a.length : Int) ≤ (m : Int)) = false := by simp; omega
          have hd2 : decide (a.length ≤ m) = false := by simp; omega
          clear a0 a1 a2 a3 a4 a5 hy
          obtain ⟨b2, ht⟩ : ∃ b, takesM x (m : Int) = b := ⟨_, rfl⟩
          have HT := Lib.hid ht
          clear ht
          rcases Bool.eq_false_or_eq_true (y.op == 28) with hy1 | hy1 <;> cases b2
          · have hr := Lib.hid (all_stop (kidB a x) L j (m : Int) HQ.out (by unfold kidB; rw [HO.out, HT.out, hy1, decide_eq_true (show (0 : Int) ≤ (m : Int) by omega), decide_eq_true (show (m : Int) < (a.length : Int) by omega)]; rfl))
            go_wp2
            go_region_held3 (fun w' => w'.cell? ⟨g, o + m * 6, none⟩ = some (.int .i64 y.op) ∧ w'.cell? ⟨w.heap.size, 0, none⟩ = some (.int .i64 x.op) ∧ w'.cell? ⟨w.heap.size, 1, none⟩ = some (.int .i64 x.a) ∧ w'.cell? ⟨w.heap.size, 2, none⟩ = some (.int .i64 x.b) ∧ w'.cell? ⟨w.heap.size, 3, none⟩ = some (.int .i64 x.c) ∧ w'.cell? ⟨w.heap.size, 4, none⟩ = some (.int .i64 x.n) ∧ w'.cell? ⟨w.heap.size, 5, none⟩ = some (.string (str x.name)))
              (first | go_keep | (refine ⟨?_, ?_, ?_, ?_, ?_, ?_, ?_⟩ <;> (rw [hb3.cell (by simp <;> omega)]; simp [*])))
              ((go_at_call 103; refine (takes_lit x _ _ _ HT.out).mono ?_; rintro r w3 ⟨rfl, hb3⟩))
            go_wp2
            go_ret
            exact ⟨by rw [hr.out]; rfl, hend.out.drew.trans (hb3.mono (by show _ ≤ wr.heap.size; omega))⟩
          · have hn := Lib.hid (all_next (kidB a x) L j (m : Int) HQ.out HALL.out (by unfold kidB; rw [HO.out, HT.out, hy1, decide_eq_true (show (0 : Int) ≤ (m : Int) by omega), decide_eq_true (show (m : Int) < (a.length : Int) by omega)]; rfl))
            go_wp2
            go_region_held3 (fun w' => w'.cell? ⟨g, o + m * 6, none⟩ = some (.int .i64 y.op) ∧ w'.cell? ⟨w.heap.size, 0, none⟩ = some (.int .i64 x.op) ∧ w'.cell? ⟨w.heap.size, 1, none⟩ = some (.int .i64 x.a) ∧ w'.cell? ⟨w.heap.size, 2, none⟩ = some (.int .i64 x.b) ∧ w'.cell? ⟨w.heap.size, 3, none⟩ = some (.int .i64 x.c) ∧ w'.cell? ⟨w.heap.size, 4, none⟩ = some (.int .i64 x.n) ∧ w'.cell? ⟨w.heap.size, 5, none⟩ = some (.string (str x.name)))
              (first | go_keep | (refine ⟨?_, ?_, ?_, ?_, ?_, ?_, ?_⟩ <;> (rw [hb3.cell (by simp <;> omega)]; simp [*])))
              ((go_at_call 103; refine (takes_lit x _ _ _ HT.out).mono ?_; rintro r w3 ⟨rfl, hb3⟩))
            go_wp2
            refine ⟨⟨j + 1, by omega, by go_num, hn.out, HBB.out.drew.trans (hb3.mono (by show _ ≤ wr.heap.size; omega))⟩, by simp [intOf]; omega⟩
          · have hn := Lib.hid (all_next (kidB a x) L j (m : Int) HQ.out HALL.out (by unfold kidB; rw [HO.out, HT.out, hy1, decide_eq_true (show (0 : Int) ≤ (m : Int) by omega), decide_eq_true (show (m : Int) < (a.length : Int) by omega)]; rfl))
            go_wp2
            go_region_held3 (fun w' => w'.cell? ⟨g, o + m * 6, none⟩ = some (.int .i64 y.op) ∧ w'.cell? ⟨w.heap.size, 0, none⟩ = some (.int .i64 x.op) ∧ w'.cell? ⟨w.heap.size, 1, none⟩ = some (.int .i64 x.a) ∧ w'.cell? ⟨w.heap.size, 2, none⟩ = some (.int .i64 x.b) ∧ w'.cell? ⟨w.heap.size, 3, none⟩ = some (.int .i64 x.c) ∧ w'.cell? ⟨w.heap.size, 4, none⟩ = some (.int .i64 x.n) ∧ w'.cell? ⟨w.heap.size, 5, none⟩ = some (.string (str x.name)))
              (first | go_keep | (refine ⟨?_, ?_, ?_, ?_, ?_, ?_, ?_⟩ <;> (rw [hb3.cell (by simp <;> omega)]; simp [*])))
              ((go_at_call 103; refine (takes_lit x _ _ _ HT.out).mono ?_; rintro r w3 ⟨rfl, hb3⟩))
            go_wp2
            refine ⟨⟨j + 1, by omega, by go_num, hn.out, HBB.out.drew.trans (hb3.mono (by show _ ≤ wr.heap.size; omega))⟩, by simp [intOf]; omega⟩
          · have hr := Lib.hid (all_stop (kidB a x) L j (m : Int) HQ.out (by unfold kidB; rw [HO.out, HT.out, hy1, decide_eq_true (show (0 : Int) ≤ (m : Int) by omega), decide_eq_true (show (m : Int) < (a.length : Int) by omega)]; rfl))
            go_wp2
            go_region_held3 (fun w' => w'.cell? ⟨g, o + m * 6, none⟩ = some (.int .i64 y.op) ∧ w'.cell? ⟨w.heap.size, 0, none⟩ = some (.int .i64 x.op) ∧ w'.cell? ⟨w.heap.size, 1, none⟩ = some (.int .i64 x.a) ∧ w'.cell? ⟨w.heap.size, 2, none⟩ = some (.int .i64 x.b) ∧ w'.cell? ⟨w.heap.size, 3, none⟩ = some (.int .i64 x.c) ∧ w'.cell? ⟨w.heap.size, 4, none⟩ = some (.int .i64 x.n) ∧ w'.cell? ⟨w.heap.size, 5, none⟩ = some (.string (str x.name)))
              (first | go_keep | (refine ⟨?_, ?_, ?_, ?_, ?_, ?_, ?_⟩ <;> (rw [hb3.cell (by simp <;> omega)]; simp [*])))
              ((go_at_call 103; refine (takes_lit x _ _ _ HT.out).mono ?_; rintro r w3 ⟨rfl, hb3⟩))
            go_wp2
            go_ret
            exact ⟨by rw [hr.out]; rfl, hend.out.drew.trans (hb3.mono (by show _ ≤ wr.heap.size; omega))⟩
        · have hr := Lib.hid (all_stop (kidB a x) L j q HQ.out (by unfold kidB; rw [decide_eq_true (show 0 ≤ q by omega), decide_eq_false hqa]; rfl))
          have hd0 : decide (q < 0) = false := by simpa using hq0
          have hd1 : (a.length : Int) ≤ q := by omega
          go_wp2
          go_quiet (fail)
          go_wp2
          go_ret
          exact ⟨by rw [hr.out]; rfl, below_drewN hend.out _⟩
    · have hjl : j = L.length := by omega
      subst hjl
      have HA3 := Lib.hid (show L.all (kidB a x) = true by have := HALL.out; rwa [List.take_length] at this)
      clear hb
      go_wp2_with fail
      refine (held_any _ [x.a, x.b, x.c] _ (by exact Ints.of_own (ints_lit wr [x.a, x.b, x.c] (by unfold maxLen; simp))) (by simp)).mono ?_
      rintro r w4 ⟨kv, rfl, hok, hb4⟩
      obtain ⟨A4, c4, rfl, z1, z2, hA4⟩ := Ints.of_own hok
      obtain ⟨m, hm⟩ : ∃ m, (heldM [x.a, x.b, x.c]).length = m := ⟨_, rfl⟩
      have HM := Lib.hid hm
      rw [hm] at z1 ⊢
      have HB4 := Lib.hid ((hend.out.alloc (by omega) _).trans (hb4.mono (by simp; omega)))
      have HE := Lib.hid (show (L.all (kidB a x) && ((heldM [x.a, x.b, x.c]).length == L.length)) = ((m : Int) == (L.length : Int)) by
        rw [HA3.out, HM.out, Bool.true_and, Bool.eq_iff_iff, beq_iff_eq, beq_iff_eq]; omega)
      clear hm hok hA4 hb4
      go_wp2
      go_ret
      exact ⟨ret_bool HE.out.symm, HB4.out⟩
end Go.Proofs.YtobkcdkffcenbaaGreatDoor.Tr

