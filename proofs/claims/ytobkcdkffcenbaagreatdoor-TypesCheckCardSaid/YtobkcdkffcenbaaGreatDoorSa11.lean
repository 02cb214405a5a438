/- A lean reader of programs: a reader in memory in which nothing has failed; its small functions. Conditions: as each says. -/
import Derived.Test.YtobkcdkffcenbaaGreatDoorSa10
import Derived.Test.YtobkcdkffcenbaaGreatDoorSa07
set_option linter.unusedVariables false
set_option linter.unusedSimpArgs false
namespace Go.Proofs.YtobkcdkffcenbaaGreatDoor.Lp
open Go.ChangeShapes Go.WideShapes Go.ChangeAt Go.RowKit
open Go.Proofs.YtobkcdkffcenbaaGreatDoor.Tr (str ret_bool ret_int Bytes Nd Nodes)
open Go.Proofs.YtobkcdkffcenbaaGreatDoor.Lr (isAt run TkAt Mv NdW blk_lt isAt_lt mv_set)
open Go.Proofs.YtobkcdkffcenbaaGreatDoor.Pg (Prm Eqn Itm Unt Stay)
open Go.Proofs.YtobkcdkffcenbaaGreatDoor.Ex (PtW)
def byC (lv : Value) (i : Nat) : Array Value := #[lv, .int .i64 (i : Int), .int .i64 0, .int .i64 0]
structure Ry (w : World) (b : Nat) (L : List Lx.Tok) (lv : Value) (i : Nat) : Prop where
  blk : w.heap[b]? = some (.cells (byC lv i) 88 (0, 0))
  tok : TkAt w b lv L
  ile : i ≤ L.length
  len : L.length ≤ 100000
structure P (w w' : World) (b : Nat) (L : List Lx.Tok) (lv : Value) (i : Nat) : Prop where
  rd : Ry w' b L lv i
  mv : Mv w w' b
theorem Ry.lt {w : World} {b : Nat} {L : List Lx.Tok} {lv : Value} {i : Nat} (h : Ry w b L lv i) : b < w.heap.size := blk_lt h.blk
theorem Ry.keep {w w' : World} {b : Nat} {L : List Lx.Tok} {lv : Value} {i : Nat} (h : Ry w b L lv i) (hm : ∀ g, g ≤ b → w'.heap[g]? = w.heap[g]?) : Ry w' b L lv i :=
  ⟨(hm b (Nat.le_refl _)).trans h.blk, h.tok.mv (fun g hg => hm g (Nat.le_of_lt hg)), h.ile, h.len⟩
theorem Ry.below {w w' : World} {b : Nat} {L : List Lx.Tok} {lv : Value} {i : Nat} (h : Ry w b L lv i) (hb : Below w.heap.size w w') : Ry w' b L lv i :=
  h.keep (fun g hg => hb.block g (Nat.lt_of_le_of_lt hg h.lt))
theorem Ry.turn {w W : World} {b : Nat} {L : List Lx.Tok} {lv : Value} {i i' : Nat} (h : Ry w b L lv i) (hW : W.heap[b]? = some (.cells (byC lv i') 88 (0, 0))) (hm : Mv w W b) (hi : i' ≤ L.length) : Ry W b L lv i' :=
  ⟨hW, h.tok.mv (fun g hg => hm.block g (Nat.lt_trans hg h.lt) (fun e => by injection e with e; omega)), hi, h.len⟩
theorem Ry.setI {w : World} {b : Nat} {L : List Lx.Tok} {lv : Value} {i : Nat} (h : Ry w b L lv i) {j : Nat} (hj : j ≤ L.length) : Ry (w.setCell ⟨b, 1, none⟩ (.int .i64 (j : Int))) b L lv j :=
  h.turn (by simp [World.setCell, Array.getElem?_modify, h.blk, byC]) (mv_set _ _ _ _) hj
theorem Ry.cells {w : World} {b : Nat} {L : List Lx.Tok} {lv : Value} {i : Nat} (h : Ry w b L lv i) :
    w.cell? ⟨b, 0, none⟩ = some lv ∧ w.cell? ⟨b, 1, none⟩ = some (.int .i64 (i : Int)) ∧ w.cell? ⟨b, 2, none⟩ = some (.int .i64 0) ∧ w.cell? ⟨b, 3, none⟩ = some (.int .i64 0) ∧ ∀ k, w.frozen? ⟨b, k, none⟩ = false := by
  have e := h.blk
  refine ⟨?_, ?_, ?_, ?_, fun k => ?_⟩ <;> simp [World.cell?, World.frozen?, e, byC]
theorem Ry.at {w : World} {b : Nat} {L : List Lx.Tok} {lv : Value} {i : Nat} (h : Ry w b L lv i) {t : Lx.Tok} (ht : L[i]? = some t) : ∃ g c, lv = .slice (some ⟨g, 0, none⟩) L.length c ∧ L.length ≤ c ∧ c ≤ maxLen ∧ g < b ∧
    w.cell? ⟨g, i * 3, none⟩ = some (.int .i64 t.kind) ∧ w.cell? ⟨g, i * 3 + 1, none⟩ = some (.string (str t.text)) ∧ w.cell? ⟨g, i * 3 + 2, none⟩ = some (.int .i64 (t.at_ : Int)) := by
  obtain ⟨A, c, rfl, h1, h2, hA⟩ := h.tok
  obtain ⟨g, rfl, hg, e0, e1, e2⟩ := hA i t ht
  exact ⟨g, c, rfl, h1, h2, hg, e0, e1, e2⟩
theorem P.refl {w : World} {b : Nat} {L : List Lx.Tok} {lv : Value} {i : Nat} (h : Ry w b L lv i) : P w w b L lv i := ⟨h, Mv.refl _ _⟩
theorem P.trans {w w1 w2 : World} {b : Nat} {L : List Lx.Tok} {lv : Value} {i j : Nat} (h : P w w1 b L lv i) (k : P w1 w2 b L lv j) : P w w2 b L lv j := ⟨k.rd, h.mv.trans k.mv⟩
theorem P.below {w w1 w2 : World} {b : Nat} {L : List Lx.Tok} {lv : Value} {i : Nat} (h : P w w1 b L lv i) (hb : Below w1.heap.size w1 w2) : P w w2 b L lv i := ⟨h.rd.below hb, h.mv.trans (Mv.of hb)⟩
theorem P.of {w w2 : World} {b : Nat} {L : List Lx.Tok} {lv : Value} {i : Nat} (h : Ry w b L lv i) (hb : Below w.heap.size w w2) : P w w2 b L lv i := ⟨h.below hb, Mv.of hb⟩
theorem P.stay {w w' : World} {b : Nat} {L : List Lx.Tok} {lv : Value} {i j : Nat} (h : Ry w b L lv i) (k : P w w' b L lv j) : Stay (fun t => t = 88) w w' :=
  Stay.grown k.mv (fun B hB => by injection hB with hB; subst hB; exact ⟨_, _, _, h.blk, rfl⟩)
theorem P.blk {w w' : World} {b : Nat} {L : List Lx.Tok} {lv : Value} {i : Nat} (k : P w w' b L lv i) {B : Nat} {o : Obj} (h : w.heap[B]? = some o) (hne : B ≠ b) : w'.heap[B]? = some o :=
  (k.mv.block B (blk_lt h) (fun e => hne (by injection e))).trans h
theorem P.local {w wr : World} {b B k : Nat} {L : List Lx.Tok} {lv : Value} {i : Nat} (h : P w wr b L lv i) (hB : w.heap.size ≤ B) (hlt : b < w.heap.size) (v : Value) : P w (wr.setCell ⟨B, k, none⟩ v) b L lv i := by
  have ho : ∀ g, g < w.heap.size → (wr.setCell ⟨B, k, none⟩ v).heap[g]? = wr.heap[g]? := fun g hg => Below.heap_setCell _ _ _ _ (by simp; omega)
  exact ⟨h.rd.keep (fun g hg => ho g (by omega)), ⟨h.mv.os, h.mv.tape, h.mv.output, by simpa [World.setCell] using h.mv.size, fun i hi hne => (ho i hi).trans (h.mv.block i hi hne)⟩⟩
theorem pt_of {w : World} {v : Value} {x : List Nd} (h : NdW w v x) : PtW w (v, ⟨x, 0, 0⟩) := by
  obtain ⟨B, h⟩ := h; exact PtW.own (p := ⟨x, 0, 0⟩) h
theorem ok_ok {b : Nat} {L : List Lx.Tok} {lv : Value} {i : Nat} {w : World} (h : Ry w b L lv i) : Calls Tryz.prog 41 #[.pointer (some ⟨b, 0, none⟩)] w (fun e w' => e = .returned (.bool true) ∧ w' = w) := by
  obtain ⟨-, -, c2, -, -⟩ := h.cells
  have hlt := h.lt
  clear h
  go_enter Tryz.func41, Tryz.ntmps41
  go_wp2
  go_ret
  exact ⟨rfl, rfl⟩
theorem ok_quiet {b : Nat} {L : List Lx.Tok} {lv : Value} {i : Nat} {w : World} (h : Ry w b L lv i) : ∀ n, Calls Tryz.prog 41 #[.pointer (some ⟨b, 0, none⟩)] (w.drewN n) (fun e w' => e = .returned (.bool true) ∧ w' = w.drewN n) := fun n =>
  ok_ok (h.keep (w' := w.drewN n) (fun _ _ => rfl))
set_option maxHeartbeats 1600000 in
theorem is_ok {b : Nat} {L : List Lx.Tok} {lv : Value} {i : Nat} {s : Bytes} {S : ByteArray} {B : Bool} {w : World} (hS : S = str s) (hB : isAt L i s = B) (hr : Ry w b L lv i) :
    Calls Tryz.prog 35 #[.pointer (some ⟨b, 0, none⟩), .string S] w (fun e w' => e = .returned (.bool B) ∧ P w w' b L lv i) := by
  subst hS hB
  obtain ⟨c0, c1, -, -, -⟩ := hr.cells
  have hlt := hr.lt
  have hbn : b ≠ w.heap.size := by omega
  obtain ⟨A, cc, rfl, h1, h2, hA⟩ := hr.tok
  have HA := Lib.hid hA
  have HOK := Lib.hid (ok_quiet hr)
  have HRY := Lib.hid hr
  have hile := hr.ile
  have hlen := hr.len
  unfold maxLen at h2
  clear hA hr
  by_cases hl : i < L.length
  · obtain ⟨t, ht⟩ : ∃ t, L[i]? = some t := ⟨_, List.getElem?_eq_getElem hl⟩
    obtain ⟨g, rfl, hg, e0, e1, e2⟩ := HA.out _ t ht
    have hgn : g ≠ w.heap.size := by omega
    have d1 : decide ((L.length : Int) ≤ (i : Int)) = false := decide_eq_false (by omega)
    have d1' : decide (L.length ≤ i) = false := decide_eq_false (by omega)
    have HT : Hid (isAt L i s = ((t.kind == 4 || t.kind == 3) && t.text == s)) := Lib.hid (by unfold isAt; rw [ht])
    rw [HT.out]
    clear ht
    obtain ⟨K, T, Pa⟩ := t
    simp only at e0 e1 e2 ⊢
    have hts : ((str T).toList == (str s).toList) = (T == s) := by rw [Tr.str_toList, Tr.str_toList]
    clear HT
    rcases Bool.eq_false_or_eq_true (K == 4) with h4 | h4
    all_goals rcases Bool.eq_false_or_eq_true (K == 3) with h3 | h3
    all_goals rcases Bool.eq_false_or_eq_true (T == s) with h5 | h5
    all_goals
      rw [h4, h3, h5]
      rw [h5] at hts
      go_enter Tryz.func35, Tryz.ntmps35
      go_wp2
      go_quiet ((go_at_call 41; exact Calls.quiet_of_same (HOK.out _)))
      go_wp2
      obtain ⟨w0, hw0⟩ : ∃ w0, w.drewN nq = w0 := ⟨_, rfl⟩
      have c00 : w0.cell? ⟨b, 0, none⟩ = some (.slice (some ⟨g, 0, none⟩) L.length cc) := hw0 ▸ c0
      have c01 : w0.cell? ⟨b, 1, none⟩ = some (.int .i64 (i : Int)) := hw0 ▸ c1
      have e00 : w0.cell? ⟨g, i * 3, none⟩ = some (.int .i64 K) := hw0 ▸ e0
      have e01 : w0.cell? ⟨g, i * 3 + 1, none⟩ = some (.string (str T)) := hw0 ▸ e1
      have e02 : w0.cell? ⟨g, i * 3 + 2, none⟩ = some (.int .i64 (Pa : Int)) := hw0 ▸ e2
      have hz0 : w.heap.size = w0.heap.size := hw0 ▸ rfl
      have hlt0 : b < w0.heap.size := by omega
      have hg0 : g < w0.heap.size := by omega
      have hbn0 : b ≠ w0.heap.size := by omega
      have hgn0 : g ≠ w0.heap.size := by omega
      have HB0 : Hid (Below w.heap.size w w0) := Lib.hid (hw0 ▸ Tr.below_drewN (Below.refl _ _) nq)
      rw [hw0]
      clear hw0 c0 c1 e0 e1 e2 hlt hg hbn hgn
      go_region
      go_wp2
      go_ret
      exact ⟨rfl, P.of HRY.out ((HB0.out.alloc HB0.out.size _).drew)⟩
  · have d1 : decide ((L.length : Int) ≤ (i : Int)) = true := decide_eq_true (by omega)
    have d1' : decide (L.length ≤ i) = true := decide_eq_true (by omega)
    have HT : Hid (isAt L i s = false) := Lib.hid (by unfold isAt; rw [List.getElem?_eq_none (by omega)])
    rw [HT.out]
    clear HT
    go_enter Tryz.func35, Tryz.ntmps35
    go_wp2
    go_quiet ((go_at_call 41; exact Calls.quiet_of_same (HOK.out _)))
    go_wp2
    go_ret
    exact ⟨rfl, P.of HRY.out (Tr.below_drewN (Below.refl _ _) _)⟩
set_option maxRecDepth 100000 in
set_option maxHeartbeats 1600000 in
theorem take_ok {b : Nat} {L : List Lx.Tok} {lv : Value} {i : Nat} {s : Bytes} {S : ByteArray} {B : Bool} {w : World} (hS : S = str s) (hB : isAt L i s = B) (hr : Ry w b L lv i) :
    Calls Tryz.prog 40 #[.pointer (some ⟨b, 0, none⟩), .string S] w (fun e w' => e = .returned (.bool B) ∧ P w w' b L lv (if B then i + 1 else i)) := by
  have HC := Lib.hid (is_ok hS hB hr)
  cases B with
  | false =>
    clear hr hB hS
    go_enter Tryz.func40, Tryz.ntmps40
    go_wp2_with fail
    refine HC.out.mono ?_
    rintro e w1 ⟨rfl, hb⟩
    have HBL := Lib.hid hb
    clear hb
    go_wp2
    go_ret
    exact ⟨rfl, HBL.out⟩
  | true =>
    have hil := isAt_lt hB
    clear hr hB hS
    go_enter Tryz.func40, Tryz.ntmps40
    go_wp2_with fail
    refine HC.out.mono ?_
    rintro e w1 ⟨rfl, hb⟩
    have HBL := Lib.hid hb
    obtain ⟨-, c1, -, -, f⟩ := hb.rd.cells
    have hlen := hb.rd.len
    have f1 := f 1
    clear hb f
    go_wp2
    go_ret
    exact ⟨rfl, HBL.out.rd.setI (j := i + 1) (by omega), HBL.out.mv.trans (mv_set _ _ _ _)⟩
set_option maxRecDepth 100000 in
set_option maxHeartbeats 800000 in
theorem need_ok {b : Nat} {L : List Lx.Tok} {lv : Value} {i : Nat} {s : Bytes} {S : ByteArray} {w : World} (hS : S = str s) (hB : isAt L i s = true) (hr : Ry w b L lv i) :
    Calls Tryz.prog 38 #[.pointer (some ⟨b, 0, none⟩), .string S] w (fun e w' => e = .returned (.tuple #[]) ∧ P w w' b L lv (i + 1)) := by
  have HC := Lib.hid (take_ok hS hB hr)
  clear hB hr hS
  go_enter Tryz.func38, Tryz.ntmps38
  go_wp2_with fail
  refine HC.out.mono ?_
  rintro e w1 ⟨rfl, h1⟩
  have H1 := Lib.hid h1
  clear h1
  go_wp2
  go_end0
  exact ⟨rfl, H1.out⟩
end Go.Proofs.YtobkcdkffcenbaaGreatDoor.Lp

/- A lean reader of programs: a name, room, an expression, a stream. Conditions: as each says. -/
namespace Go.Proofs.YtobkcdkffcenbaaGreatDoor.Lp
open Go.ChangeShapes Go.WideShapes Go.ChangeAt Go.RowKit
open Go.Proofs.YtobkcdkffcenbaaGreatDoor.Tr (str ret_bool ret_int Bytes Nd Nodes)
open Go.Proofs.YtobkcdkffcenbaaGreatDoor.Lr (isAt run TkAt Mv NdW blk_lt isAt_lt mv_set)
open Go.Proofs.YtobkcdkffcenbaaGreatDoor.Pg (Prm Eqn Itm Unt Stay)
open Go.Proofs.YtobkcdkffcenbaaGreatDoor.Ex (PtW)
set_option maxHeartbeats 1600000 in
theorem named_ok {b : Nat} {L : List Lx.Tok} {lv : Value} {i : Nat} {B : Bool} {w : World} (hr : Ry w b L lv i) (hB : isNm L i = B) : Calls Tryz.prog 59 #[.pointer (some ⟨b, 0, none⟩)] w (fun e w' => e = .returned (.bool B) ∧ P w w' b L lv i) := by
  subst hB
  obtain ⟨c0, c1, -, -, -⟩ := hr.cells
  have hlt := hr.lt
  obtain ⟨A, cc, rfl, h1, h2, hA⟩ := hr.tok
  have HA := Lib.hid hA
  have HOK := Lib.hid (ok_quiet hr)
  have HRY := Lib.hid hr
  have hlen := hr.len
  unfold maxLen at h2
  clear hA hr
  by_cases hl : i < L.length
  · obtain ⟨t, ht⟩ : ∃ t, L[i]? = some t := ⟨_, List.getElem?_eq_getElem hl⟩
    obtain ⟨g, rfl, hg, e0, e1, e2⟩ := HA.out _ t ht
    have d1 : decide ((i : Int) < (L.length : Int)) = true := decide_eq_true (by omega)
    have d1' : decide (i < L.length) = true := decide_eq_true (by omega)
    have HT : Hid (isNm L i = (t.kind == 1)) := Lib.hid (by unfold isNm; rw [ht])
    rw [HT.out]
    clear ht HT
    obtain ⟨K, T, Pa⟩ := t
    simp only at e0 e1 e2 ⊢
    rcases Bool.eq_false_or_eq_true (K == 1) with h4 | h4
    all_goals
      rw [h4]
      go_enter Tryz.func59, Tryz.ntmps59
      go_wp2
      go_quiet ((go_at_call 41; exact Calls.quiet_of_same (HOK.out _)))
      go_wp2
      go_ret
      exact ⟨rfl, P.of HRY.out (by repeat (first | exact Below.refl _ _ | refine Tr.below_drewN ?_ _))⟩
  · have d1 : decide ((i : Int) < (L.length : Int)) = false := decide_eq_false (by omega)
    have d1' : decide (i < L.length) = false := decide_eq_false (by omega)
    have HT : Hid (isNm L i = false) := Lib.hid (by unfold isNm; rw [List.getElem?_eq_none (by omega)])
    rw [HT.out]
    clear HT
    go_enter Tryz.func59, Tryz.ntmps59
    go_wp2
    go_quiet ((go_at_call 41; exact Calls.quiet_of_same (HOK.out _)))
    go_wp2
    go_ret
    exact ⟨rfl, P.of HRY.out (by repeat (first | exact Below.refl _ _ | refine Tr.below_drewN ?_ _))⟩
set_option maxRecDepth 100000 in
set_option maxHeartbeats 1600000 in
theorem name_ok {b : Nat} {L : List Lx.Tok} {lv : Value} {i j : Nat} {n : Bytes} {w : World} (hr : Ry w b L lv i) (h : nameL L i = some (n, j)) : Calls Tryz.prog 39 #[.pointer (some ⟨b, 0, none⟩)] w (fun e w' => e = .returned (.string (str n)) ∧ P w w' b L lv j) := by
  obtain ⟨hB, rfl, t, ht, hk, rfl⟩ := name_is h
  have HC := Lib.hid (named_ok hr hB)
  have HT := Lib.hid ht
  have hil := (List.getElem?_eq_some_iff.1 ht).1
  have hlen := hr.len
  clear h hB hk ht hr
  go_enter Tryz.func39, Tryz.ntmps39
  go_wp2_with fail
  refine HC.out.mono ?_
  rintro e w1 ⟨rfl, hp⟩
  obtain ⟨c0, c1, -, -, fz⟩ := hp.rd.cells
  obtain ⟨g, cc, hlv, h1, h2, hg, e0, e1, e2⟩ := hp.rd.at HT.out
  have HP := Lib.hid hp
  subst hlv
  unfold maxLen at h2
  have f1 := fz 1
  have hlt1 := hp.rd.lt
  have hgn : g ≠ b := by omega
  have HE := Lib.hid (P.trans HP.out ⟨HP.out.rd.setI (j := i + 1) (by omega), mv_set _ _ _ _⟩)
  clear hp fz
  go_wp2
  repeat (first | (go_quiet (fail); go_wp2) | (go_region; go_wp2))
  all_goals go_ret
  all_goals exact ⟨rfl, HE.out.below (by repeat (first | exact Below.refl _ _ | refine Tr.below_drewN ?_ _))⟩
theorem room_ok {b : Nat} {n : Nat} {w : World} (hn : n < 200) : Calls Tryz.prog 36 #[.pointer (some ⟨b, 0, none⟩), .int .i64 (n : Int)] w (fun e w' => e = .returned (.tuple #[]) ∧ w' = w) := by
  have d1 : decide ((200 : Int) ≤ (n : Int)) = false := decide_eq_false (by omega)
  have d2 : decide (200 ≤ n) = false := decide_eq_false (by omega)
  go_enter Tryz.func36, Tryz.ntmps36
  go_wp2
  go_end0
  exact ⟨rfl, rfl⟩
theorem cell_at {w : World} {B : Nat} {cs : Array Value} {T : TypeId} {f : Nat × Nat} (h : w.heap[B]? = some (.cells cs T f)) (k : Nat) : w.cell? ⟨B, k, none⟩ = cs[k]? := by simp [World.cell?, h]
theorem free_at {w : World} {B : Nat} {cs : Array Value} {T : TypeId} (h : w.heap[B]? = some (.cells cs T (0, 0))) (k : Nat) : w.frozen? ⟨B, k, none⟩ = false := by simp [World.frozen?, h]
theorem set_oth {W : World} {B k : Nat} {v : Value} {B' : Nat} {o : Obj} (h : W.heap[B']? = some o) (hne : B' ≠ B) : (W.setCell ⟨B, k, none⟩ v).heap[B']? = some o := (Below.heap_setCell W ⟨B, k, none⟩ v B' hne).trans h
theorem below_al (w : World) (o : Obj) : Below w.heap.size w (w.alloc o) := (Below.refl _ _).alloc (Nat.le_refl _) _
theorem set2 {W : World} {B : Nat} {T : TypeId} {u0 u1 : Value} (h : W.heap[B]? = some (.cells #[u0, u1] T (0, 0))) (v0 v1 : Value) : ((W.setCell ⟨B, 0, none⟩ v0).setCell ⟨B, 1, none⟩ v1).heap[B]? = some (.cells #[v0, v1] T (0, 0)) := by simp [World.setCell, Array.getElem?_modify, h]
set_option maxRecDepth 100000 in
set_option maxHeartbeats 1600000 in
theorem param_ok {b : Nat} {L : List Lx.Tok} {lv : Value} {i j : Nat} {p : Prm} {w : World} (hr : Ry w b L lv i) (h : paramL L i = some (p, j)) : Calls Tryz.prog 56 #[.pointer (some ⟨b, 0, none⟩)] w (fun e w' => e = .returned (.agg #[.string (str p.name), .int .i64 p.ty]) ∧ P w w' b L lv j) := by
  obtain ⟨n, k, h1, h2⟩ := bd_some h
  obtain ⟨h3, h4⟩ := nd_some h2
  have hlt := hr.lt
  obtain ⟨w0, hw0⟩ : ∃ W, w.alloc (.cells #[.string ⟨#[]⟩, .int .i64 0] 45) = W := ⟨_, rfl⟩
  have hx0 : w0.heap[w.heap.size]? = some (.cells #[.string ⟨#[]⟩, .int .i64 0] 45 (0, 0)) := hw0 ▸ heap_alloc_new _ _
  have HG0 := Lib.hid (show P w w0 b L lv i from P.of hr (hw0 ▸ below_al _ _))
  have HN := Lib.hid (name_ok HG0.out.rd h1)
  have HX0 := Lib.hid hx0
  have H3 := Lib.hid h3
  have HW0 := Lib.hid hw0
  have hs0 : w0.heap.size = w.heap.size + 1 := by rw [← hw0]; simp
  clear h h1 h2 h3 hr hw0 hx0
  go_enter Tryz.func56, Tryz.ntmps56
  go_wp2_with fail
  rw [HW0.out]
  refine HN.out.mono ?_
  rintro e w1 ⟨rfl, g1⟩
  have HG1 := Lib.hid (HG0.out.trans g1)
  have HX1 := Lib.hid (g1.blk HX0.out (by omega))
  have hs1 := g1.mv.size
  obtain ⟨w2, hw2⟩ : ∃ W, w1.alloc (.cells #[.string (str n), .int .i64 0] 45) = W := ⟨_, rfl⟩
  have HG2 := Lib.hid (HG1.out.below (hw2 ▸ below_al w1 _))
  have HX2 : Hid (w2.heap[w.heap.size]? = some (.cells #[.string ⟨#[]⟩, .int .i64 0] 45 (0, 0))) := Lib.hid (hw2 ▸ (Below.heap_alloc _ _ _ (by omega)).trans HX1.out)
  have HY2 : Hid (w2.heap[w1.heap.size]? = some (.cells #[.string (str n), .int .i64 0] 45 (0, 0))) := Lib.hid (hw2 ▸ heap_alloc_new _ _)
  have HW2 := Lib.hid hw2
  have HNE := Lib.hid (need_ok (s := [58]) rfl H3.out HG2.out.rd)
  have hs2 : w2.heap.size = w1.heap.size + 1 := by rw [← hw2]; simp
  clear g1 hw2
  go_wp2_with fail
  rw [HW2.out]
  refine HNE.out.mono ?_
  rintro e w3 ⟨rfl, g3⟩
  have HG3 := Lib.hid (HG2.out.trans g3)
  have HX3 := Lib.hid (g3.blk HX2.out (by omega))
  have HY3 := Lib.hid (g3.blk HY2.out (by omega))
  clear g3
  have fin : ∀ (W : World) (ty : Int) (m : Nat), P w W b L lv m → W.heap[w.heap.size]? = some (.cells #[.string ⟨#[]⟩, .int .i64 0] 45 (0, 0)) → P w (((W.setCell ⟨w1.heap.size, 1, none⟩ (.int .i64 ty)).setCell ⟨w.heap.size, 0, none⟩ (.string (str n))).setCell ⟨w.heap.size, 1, none⟩ (.int .i64 ty)) b L lv m ∧
      (((W.setCell ⟨w1.heap.size, 1, none⟩ (.int .i64 ty)).setCell ⟨w.heap.size, 0, none⟩ (.string (str n))).setCell ⟨w.heap.size, 1, none⟩ (.int .i64 ty)).heap[w.heap.size]? = some (.cells #[.string (str n), .int .i64 ty] 45 (0, 0)) := fun W ty m hp hx =>
    ⟨((hp.local (by omega) hlt _).local (by omega) hlt _).local (by omega) hlt _, set2 (set_oth hx (by omega)) _ _⟩
  have HFIN := Lib.hid fin
  have hnx : w.heap.size ≠ w1.heap.size := by omega
  clear fin
  cases hB : isAt L (k + 1) [98, 111, 111, 108] with
  | true =>
    rw [hB, if_pos rfl] at h4
    injection h4 with h4
    simp only [Prod.mk.injEq] at h4
    obtain ⟨rfl, rfl⟩ := h4
    have HT := Lib.hid (take_ok (s := [98, 111, 111, 108]) rfl hB HG3.out.rd)
    clear hB
    go_wp2_with fail
    refine HT.out.mono ?_
    rintro e w4 ⟨rfl, g4⟩
    have HG4 := Lib.hid (HG3.out.trans g4)
    have x4 := g4.blk HX3.out (by omega)
    have y4 := g4.blk HY3.out (by omega)
    have HE := Lib.hid (HFIN.out w4 1 _ HG4.out x4)
    have a0 := cell_at x4 0
    have a1 := cell_at x4 1
    have a2 := free_at x4 0
    have a3 := free_at x4 1
    have b0 := cell_at y4 0
    have b1 := cell_at y4 1
    have b2 := free_at y4 1
    simp at a0 a1 b0 b1
    clear g4 x4 y4
    go_wp2
    have z0 := cell_at HE.out.2 0
    have z1 := cell_at HE.out.2 1
    simp at z0 z1
    exact bodyPost_ret (v := .agg #[.string (str n), .int .i64 1]) (by simp [results, Tryz.results56, go_sem, z0, z1]) rfl ⟨rfl, HE.out.1⟩
  | false =>
    rw [hB, if_neg (by simp)] at h4
    split at h4
    · rename_i hC
      injection h4 with h4
      simp only [Prod.mk.injEq] at h4
      obtain ⟨rfl, rfl⟩ := h4
      have HT := Lib.hid (take_ok (s := [98, 111, 111, 108]) rfl hB HG3.out.rd)
      have HC := Lib.hid hC
      clear hB hC
      go_wp2_with fail
      refine HT.out.mono ?_
      rintro e w3' ⟨rfl, g3⟩
      have HG3' := Lib.hid (HG3.out.trans g3)
      have HX3' := Lib.hid (g3.blk HX3.out (by omega))
      have HY3' := Lib.hid (g3.blk HY3.out (by omega))
      have HT2 := Lib.hid (take_ok (s := [105, 110, 116]) rfl HC.out g3.rd)
      clear g3
      go_wp2_with fail
      refine HT2.out.mono ?_
      rintro e w4 ⟨rfl, g4⟩
      have HG4 := Lib.hid (HG3'.out.trans g4)
      have x4 := g4.blk HX3'.out (by omega)
      have y4 := g4.blk HY3'.out (by omega)
      have HE := Lib.hid (HFIN.out w4 2 _ HG4.out x4)
      have a0 := cell_at x4 0
      have a1 := cell_at x4 1
      have a2 := free_at x4 0
      have a3 := free_at x4 1
      have b0 := cell_at y4 0
      have b1 := cell_at y4 1
      have b2 := free_at y4 1
      simp at a0 a1 b0 b1
      clear g4 x4 y4
      go_wp2
      have z0 := cell_at HE.out.2 0
      have z1 := cell_at HE.out.2 1
      simp at z0 z1
      exact bodyPost_ret (v := .agg #[.string (str n), .int .i64 2]) (by simp [results, Tryz.results56, go_sem, z0, z1]) rfl ⟨rfl, HE.out.1⟩
    · cases h4
end Go.Proofs.YtobkcdkffcenbaaGreatDoor.Lp

/- Layer types: Check. Conditions: what is checked reads as a program's units, the table lies in memory. -/
namespace Go.Proofs.YtobkcdkffcenbaaGreatDoor.Ty
open Go.ChangeShapes Go.WideShapes Go.ChangeAt Go.RowKit
open Go.Proofs.YtobkcdkffcenbaaGreatDoor.Tr
open Go.Proofs.YtobkcdkffcenbaaGreatDoor.Pg (Prm Eqn Itm Unt)
open Go.Proofs.YtobkcdkffcenbaaGreatDoor.Ow (PrmN EqnN ItmN UntN RowN rown_at rown_form)
noncomputable def checkM : Nat → (Bytes → Option (List Int × Int)) → List Unt → Int × Int
  | _, _, [] => (0, 0)
  | n, g, u :: r => if unitM g u ≠ 0 then (unitM g u, (n : Int)) else checkM (n + 1) (addN g u) r
def SmallU (u : Unt) : Prop := u.ins.length ≤ 1000 ∧ u.vars.length ≤ 1000 ∧ u.items.length ≤ 1000000
def FltPost (w : World) (x : Int × Int) (e : Ending) (w' : World) : Prop := e = .returned (.agg #[.int .i64 x.1, .int .i64 x.2]) ∧ Below w.heap.size w w'
set_option maxRecDepth 100000 in
set_option maxHeartbeats 8000000 in
theorem check_any (us : List Unt) (uv : Value) (m b : Bytes) (w : World) (hT : ShAt w) (hu : RowN 8 UntN w us uv) (hsm : ∀ u ∈ us, SmallU u) :
    Calls Tryz.prog 7 #[.agg #[uv, .string (str m), .string (str b)]] w (FltPost w (checkM 0 noN us)) := by
  have hmm := @run_makeMap Tryz.prog
  obtain ⟨R, hR⟩ : ∃ R, checkM 0 noN us = R := ⟨_, rfl⟩
  have HR : Hid (checkM 0 noN (us.drop 0) = R) := Lib.hid hR
  rw [hR]
  have HU := Lib.hid hu
  have HSM := Lib.hid hsm
  obtain ⟨A, c, rfl, h1, h2, -⟩ := rown_form hu
  unfold maxLen at h2
  have HTW : Hid (∀ W, Below w.heap.size w W → ShAt W) := Lib.hid (fun W h => hT.below h hT.1)
  have N := news_two w (.cells #[.slice A us.length c, .string (str m), .string (str b)] 24) (.cells #[.int .i64 0, .int .i64 0] 29)
  obtain ⟨w1, hw1⟩ : ∃ W, (w.alloc (.cells #[.slice A us.length c, .string (str m), .string (str b)] 24)).alloc (.cells #[.int .i64 0, .int .i64 0] 29) = W := ⟨_, rfl⟩
  have n1 : w1.heap.size = w.heap.size + 2 := by rw [← hw1]; simp
  rw [hw1] at N
  have hm1 := NodIn.made (w0 := w) (w := w1) N.1
  have N2 := news_two w1 (.map #[] 0) (.cells #[.map none, .map (some w1.heap.size)] 60)
  have hm2 : NodIn w ((w1.alloc (.map #[] 0)).alloc (.cells #[.map none, .map (some w1.heap.size)] 60)) w1.heap.size 0 noN := hm1.below (below_new _ _)
  obtain ⟨w2, hw2⟩ : ∃ W, (w1.alloc (.map #[] 0)).alloc (.cells #[.map none, .map (some w1.heap.size)] 60) = W := ⟨_, rfl⟩
  rw [hw2] at N2 hm2
  have hb12 : Below w1.heap.size w1 w2 := N2.1
  have lx1 := lt_of_block N.2.1
  have lx2 := lt_of_block N.2.2
  have hX0 := (hb12.block _ lx1).trans N.2.1
  have hX1 := (hb12.block _ lx2).trans N.2.2
  have hX3 := N2.2.2
  rw [n1] at hm2 hX3 hw2
  have HB2 : Hid (Below w.heap.size w w2) := Lib.hid (N.1.trans (hb12.mono N.1.size))
  have HX1 := Lib.hid hX1
  have HX3 := Lib.hid hX3
  have HM2 := Lib.hid hm2
  have HW2 := Lib.hid hw2
  have HW1 := Lib.hid hw1
  have n2 : w2.heap.size = w.heap.size + 4 := by rw [← hw2]; simp [n1]
  have HN2 := Lib.hid n2
  have x0 : w1.cell? ⟨w.heap.size, 0, none⟩ = some (.slice A us.length c) := (cells_at N.2.1 0).trans rfl
  have x02 : w2.cell? ⟨w.heap.size, 0, none⟩ = some (.slice A us.length c) := (cells_at hX0 0).trans rfl
  have HN1 := Lib.hid n1
  have HEND : Hid (∀ (wr : World) (p q : Int), Below w.heap.size w wr → (p, q) = R → ∀ e, e = Ending.returned (.agg #[.int .i64 p, .int .i64 q]) → FltPost w R e ((wr.setCell ⟨w.heap.size + 1, 0, none⟩ (.int .i64 p)).setCell ⟨w.heap.size + 1, 1, none⟩ (.int .i64 q))) := Lib.hid (fun wr p q hb h e he => by
    subst h; subst he
    exact ⟨rfl, (hb.setCell (by simp) _).setCell (by simp) _⟩)
  clear hR hu hT hsm N N2 hm1 hm2 hb12 hX0 hX1 hX3 n2 HW1 HW2
  go_enter Tryz.func7, Tryz.ntmps7
  go_wp2
  go_loopw [12] (fun i wr => ∃ (k : Nat) (g : Bytes → Option (List Int × Int)), k ≤ us.length ∧ i = .int .i64 k ∧ NodIn w wr (w.heap.size + 2) k g ∧ Below w.heap.size w wr ∧ wr.heap[w.heap.size + 1]? = some (.cells #[.int .i64 0, .int .i64 0] 29 (0, 0)) ∧ wr.heap[w.heap.size + 2 + 1]? = some (.cells #[.map none, .map (some (w.heap.size + 2))] 60 (0, 0)) ∧ Hid (checkM k g (us.drop k) = R)) (fun i _ => us.length - (intOf i).toNat)
  case atStart => exact ⟨0, noN, Nat.zero_le _, rfl, HM2.out, HB2.out, HX1.out, HX3.out, HR⟩
  case round =>
    obtain ⟨k, g, hk, rfl, hN, hb, hZ, hX, hm⟩ := hrel
    have HNk := Lib.hid hN
    have HBk := Lib.hid hb
    have HZk := Lib.hid hZ
    have HXk := Lib.hid hX
    have lz := lt_of_block hZ
    have lX := lt_of_block hX
    have p0 : wr.cell? ⟨w.heap.size + 2 + 1, 0, none⟩ = some (.map none) := (cells_at hX 0).trans rfl
    have p1 : wr.cell? ⟨w.heap.size + 2 + 1, 1, none⟩ = some (.map (some (w.heap.size + 2))) := (cells_at hX 1).trans rfl
    by_cases hlt : k < us.length
    · obtain ⟨u, hu⟩ : ∃ u, us[k]? = some u := ⟨_, List.getElem?_eq_getElem hlt⟩
      obtain ⟨gg, o, c', x, hv', hgl, hux, hxl, hcell⟩ := rown_at HU.out hu
      simp only [Value.slice.injEq, true_and] at hv'
      obtain ⟨rfl, rfl⟩ := hv'
      have HUX := Lib.hid hux
      obtain ⟨iv, vv, qv, lv, rfl, z1, z2, z3, z4, -⟩ := hux
      obtain ⟨B1, d1, rfl, -, -, -⟩ := rown_form z1
      obtain ⟨B2, d2, rfl, -, -, -⟩ := rown_form z2
      obtain ⟨B3, d3, rfl, -, -, -⟩ := rown_form z3
      obtain ⟨B4, d4, rfl, -, -, -⟩ := rown_form z4
      have q : ∀ j, j < 8 → wr.cell? ⟨gg, o + k * 8 + j, none⟩ = _ := fun j hj => (hb.cell (p := ⟨gg, o + k * 8 + j, none⟩) hgl).trans (hcell j hj)
      have q0 : wr.cell? ⟨gg, o + k * 8, none⟩ = some (.bool u.contract) := q 0 (by omega)
      have q1 : wr.cell? ⟨gg, o + k * 8 + 1, none⟩ = some (.string (str u.name)) := q 1 (by omega)
      have q2 : wr.cell? ⟨gg, o + k * 8 + 2, none⟩ = some (.slice B1 u.ins.length d1) := q 2 (by omega)
      have q3 : wr.cell? ⟨gg, o + k * 8 + 3, none⟩ = some (.string (str u.out.name)) := q 3 (by omega)
      have q4 : wr.cell? ⟨gg, o + k * 8 + 4, none⟩ = some (.int .i64 u.out.ty) := q 4 (by omega)
      have q5 : wr.cell? ⟨gg, o + k * 8 + 5, none⟩ = some (.slice B2 u.vars.length d2) := q 5 (by omega)
      have q6 : wr.cell? ⟨gg, o + k * 8 + 6, none⟩ = some (.slice B3 u.eqs.length d3) := q 6 (by omega)
      have q7 : wr.cell? ⟨gg, o + k * 8 + 7, none⟩ = some (.slice B4 u.items.length d4) := q 7 (by omega)
      have hgr : gg < wr.heap.size := by have := hb.size; omega
      obtain ⟨w4, hw4⟩ : ∃ W, wr.alloc (.cells #[.bool u.contract, .string (str u.name), .slice B1 u.ins.length d1, .string (str u.out.name), .int .i64 u.out.ty, .slice B2 u.vars.length d2, .slice B3 u.eqs.length d3, .slice B4 u.items.length d4] 49) = W := ⟨_, rfl⟩
      have hb4 : Below wr.heap.size wr w4 := hw4 ▸ below_new wr _
      have hX4 : w4.heap[wr.heap.size]? = some (.cells #[.bool u.contract, .string (str u.name), .slice B1 u.ins.length d1, .string (str u.out.name), .int .i64 u.out.ty, .slice B2 u.vars.length d2, .slice B3 u.eqs.length d3, .slice B4 u.items.length d4] 49 (0, 0)) := hw4 ▸ heap_alloc_new wr _
      have hbw4 : Below w.heap.size w w4 := hb.trans (hb4.mono hb.size)
      have hsm := HSM.out u (List.mem_of_getElem? hu)
      have HC := Lib.hid (unit_any (.map (some (w.heap.size + 2))) k g u _ w4 (.inr ⟨w, w.heap.size + 2, rfl, hN.below hb4⟩) (HTW.out w4 hbw4) (Ow.UntN.below hbw4 _ _ HUX.out) hsm.1 hsm.2.1 hsm.2.2)
      have HD : Hid ((if unitM g u ≠ 0 then (unitM g u, (k : Int)) else checkM (k + 1) (addN g u) (us.drop (k + 1))) = R) := Lib.hid (by rw [← hm.out, drop_at hu]; rfl)
      have HADD : Hid (∀ W, Below wr.heap.size wr W → Calls Tryz.prog 16 #[.agg #[.map none, .map (some (w.heap.size + 2))], .agg #[.bool u.contract, .string (str u.name), .slice B1 u.ins.length d1, .string (str u.out.name), .int .i64 u.out.ty, .slice B2 u.vars.length d2, .slice B3 u.eqs.length d3, .slice B4 u.items.length d4]] W (AddUPost w W (w.heap.size + 2) k g u)) := Lib.hid (fun W h => addU_any w (.map none) (w.heap.size + 2) k g u _ W (HNk.out.below h) HUX.out (by unfold maxLen; omega))
      obtain ⟨z, hz⟩ : ∃ z, unitM g u = z := ⟨_, rfl⟩
      rw [hz] at HC HD
      have HW4 := Lib.hid hw4
      have HB4 := Lib.hid hb4
      have HX4 := Lib.hid hX4
      have lX4 := lt_of_block hX4
      clear hu hcell hN hb hZ hX hm hw4 hb4 hbw4 hX4 hz q hsm z1 z2 z3 z4
      go_wp2_with fail
      rw [HW4.out]
      go_wp2_with fail
      refine HC.out.mono ?_
      rintro r w5 ⟨rfl, hb5⟩
      have HB45 : Hid (Below wr.heap.size wr w5) := Lib.hid (HB4.out.trans (hb5.mono HB4.out.size))
      have HB5 : Hid (Below w.heap.size w w5) := Lib.hid (HBk.out.trans (HB45.out.mono HBk.out.size))
      have hX5 := (hb5.block _ lX4).trans HX4.out
      have hS5 := (HB45.out.block _ lX).trans HXk.out
      have hZ5 := (HB45.out.block _ lz).trans HZk.out
      have HZ5 := Lib.hid hZ5
      have HS5 := Lib.hid hS5
      have lz5 := lt_of_block hZ5
      have hsz5 := HB45.out.size
      by_cases hz0 : z = 0
      · subst hz0
        have HN2' : Hid (checkM (k + 1) (addN g u) (us.drop (k + 1)) = R) := Lib.hid (by have := HD.out; rw [if_neg (by simp)] at this; exact this)
        have s0 : w5.cell? ⟨w.heap.size + 2 + 1, 0, none⟩ = some (.map none) := (cells_at hS5 0).trans rfl
        have s1 : w5.cell? ⟨w.heap.size + 2 + 1, 1, none⟩ = some (.map (some (w.heap.size + 2))) := (cells_at hS5 1).trans rfl
        have t0 : w5.cell? ⟨wr.heap.size, 0, none⟩ = some (.bool u.contract) := (cells_at hX5 0).trans rfl
        have t1 : w5.cell? ⟨wr.heap.size, 1, none⟩ = some (.string (str u.name)) := (cells_at hX5 1).trans rfl
        have t2 : w5.cell? ⟨wr.heap.size, 2, none⟩ = some (.slice B1 u.ins.length d1) := (cells_at hX5 2).trans rfl
        have t3 : w5.cell? ⟨wr.heap.size, 3, none⟩ = some (.string (str u.out.name)) := (cells_at hX5 3).trans rfl
        have t4 : w5.cell? ⟨wr.heap.size, 4, none⟩ = some (.int .i64 u.out.ty) := (cells_at hX5 4).trans rfl
        have t5 : w5.cell? ⟨wr.heap.size, 5, none⟩ = some (.slice B2 u.vars.length d2) := (cells_at hX5 5).trans rfl
        have t6 : w5.cell? ⟨wr.heap.size, 6, none⟩ = some (.slice B3 u.eqs.length d3) := (cells_at hX5 6).trans rfl
        have t7 : w5.cell? ⟨wr.heap.size, 7, none⟩ = some (.slice B4 u.items.length d4) := (cells_at hX5 7).trans rfl
        have HA := Lib.hid (HADD.out w5 HB45.out)
        clear hb5 hX5 hS5 hZ5
        go_wp2_with fail
        refine HA.out.mono ?_
        rintro r w6 ⟨rfl, hN6, hs6, hg6⟩
        have HN6 := Lib.hid hN6
        have HZ6 : Hid (w6.heap[w.heap.size + 1]? = some (.cells #[.int .i64 0, .int .i64 0] 29 (0, 0))) := Lib.hid ((hg6.block _ (by omega) (by simp)).trans HZ5.out)
        have HS6 : Hid (w6.heap[w.heap.size + 2 + 1]? = some (.cells #[.map none, .map (some (w.heap.size + 2))] 60 (0, 0))) := Lib.hid ((hg6.block _ (by omega) (by simp)).trans HS5.out)
        have HB6 : Hid (Below w.heap.size w w6) := Lib.hid (HB5.out.grown hg6 HB5.out.size (fun j hj => by cases hj; omega))
        clear hN6 hg6
        go_wp2
        refine ⟨⟨k + 1, addN g u, by omega, by go_num, HN6.out, HB6.out, HZ6.out, HS6.out, HN2'⟩, by simp [intOf]; omega⟩
      · have hzb : (z != 0) = true := by simpa using hz0
        have HRR : Hid ((z, (k : Int)) = R) := Lib.hid (by have h := HD.out; rw [if_pos hz0] at h; exact h)
        have p0 : w5.cell? ⟨w.heap.size + 1, 0, none⟩ = some (.int .i64 0) := (cells_at hZ5 0).trans rfl
        have p1 : w5.cell? ⟨w.heap.size + 1, 1, none⟩ = some (.int .i64 0) := (cells_at hZ5 1).trans rfl
        have f0 : w5.frozen? ⟨w.heap.size + 1, 0, none⟩ = false := Ex.free_at hZ5 0
        have f1 : w5.frozen? ⟨w.heap.size + 1, 1, none⟩ = false := Ex.free_at hZ5 1
        clear hb5 hX5 hS5 hZ5 hz0
        go_wp2
        have Z := Go.Proofs.YtobkcdkffcenbaaGreatDoor.Lp.set2 HZ5.out (.int .i64 z) (.int .i64 (k : Int))
        have z0 := (cells_at Z 0).trans (show _ = some (.int .i64 z) from rfl)
        have z1 := (cells_at Z 1).trans (show _ = some (.int .i64 (k : Int)) from rfl)
        clear p0 p1 f0 f1
        exact bodyPost_ret (v := .agg #[.int .i64 z, .int .i64 (k : Int)]) (by simp [results, Tryz.results7, go_sem, z0, z1]) rfl (HEND.out w5 z k HB5.out HRR.out _ rfl)
    · have hkl : k = us.length := by omega
      subst hkl
      have HRR : Hid (((0 : Int), (0 : Int)) = R) := Lib.hid (by rw [← hm.out, List.drop_length]; rfl)
      have p0 : wr.cell? ⟨w.heap.size + 1, 0, none⟩ = some (.int .i64 0) := (cells_at hZ 0).trans rfl
      have p1 : wr.cell? ⟨w.heap.size + 1, 1, none⟩ = some (.int .i64 0) := (cells_at hZ 1).trans rfl
      have f0 : wr.frozen? ⟨w.heap.size + 1, 0, none⟩ = false := Ex.free_at hZ 0
      have f1 : wr.frozen? ⟨w.heap.size + 1, 1, none⟩ = false := Ex.free_at hZ 1
      clear hN hb hZ hX hm
      go_wp2
      have Z := Go.Proofs.YtobkcdkffcenbaaGreatDoor.Lp.set2 HZk.out (.int .i64 0) (.int .i64 0)
      have z0 := (cells_at Z 0).trans (show _ = some (.int .i64 0) from rfl)
      have z1 := (cells_at Z 1).trans (show _ = some (.int .i64 0) from rfl)
      clear p0 p1 f0 f1
      exact bodyPost_ret (v := .agg #[.int .i64 0, .int .i64 0]) (by simp [results, Tryz.results7, go_sem, z0, z1]) rfl (HEND.out wr 0 0 HBk.out HRR.out _ rfl)
end Go.Proofs.YtobkcdkffcenbaaGreatDoor.Ty

