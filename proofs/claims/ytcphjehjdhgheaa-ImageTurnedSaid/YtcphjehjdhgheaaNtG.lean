/- What an operator needs, by layer sched: its operands that are not below 0. Conditions: it is one of a net. Whether a net may be, by layer norm. Conditions: the net has at most 100000 inputs. -/
import Derived.Test.YtcphjehjdhgheaaNtE
import Derived.Test.YtcphjehjdhgheaaNhA
import Derived.Lib.SliceRun
namespace Go.Proofs.Ytcphjehjdhgheaa.Nt
open Go.ChangeShapes Go.WideShapes Go.ChangeAt Go.RowKit Go.Proofs.Ytcphjehjdhgheaa.Tr
set_option linter.unusedVariables false
set_option linter.unusedSimpArgs false

theorem needs1_any (k : Int) (w : World) : Calls Try.prog 95 #[.int .i64 k] w fun e w' => e = .returned (.bool (decide (k < 0))) ∧ w' = w := by
  go_enter Try.func95, Try.ntmps95
  go_wp2
  go_ret
  exact ⟨rfl, rfl⟩
theorem eNeeds1 : ∀ args w, (callFunc 95 args).run Try.prog w = .ok (.enter 95 args) w := by intro a w; kernel_rfl
theorem ezero (w : World) : (zeroValue 3).run Try.prog w = .ok (.int .i64 0) w := by kernel_rfl
theorem row_ints {w : World} {b : Nat} {l : List Int} {fr : Nat × Nat} {T : TypeId} (h : w.heap[b]? = some (.cells (intsOf l).toArray T fr)) (hm : l.length ≤ maxLen) : Ints w (.slice (some ⟨b, 0, none⟩) l.length l.length) l := by
  refine ⟨some ⟨b, 0, none⟩, l.length, rfl, Nat.le_refl _, hm, fun i x hi => ⟨b, 0, rfl, lt_of_block h, ?_⟩⟩
  rw [Nat.zero_add]
  have := intsOf_get l i x hi
  simp [World.cell?, h, this]
def DelPost (w : World) (b m n : Nat) (P : List Int) (e : Ending) (w' : World) : Prop := e = .returned (.slice (some ⟨b, 0, none⟩) m n) ∧ Ints w' (.slice (some ⟨b, 0, none⟩) m n) P ∧ Kp (fun i => i = b) w w'
theorem kp_setCells (w : World) (b : Nat) : ∀ (vs : List Value) (o : Nat) (w1 : World), Kp (fun i => i = b) w w1 → Kp (fun i => i = b) w (w1.setCells b o vs) := by
  intro vs
  induction vs with
  | nil => intro o w1 h; exact h
  | cons v vs ih => intro o w1 h; exact ih _ _ (h.setCell (p := ⟨b, o, none⟩) rfl v)
set_option maxHeartbeats 1600000 in
theorem del_any (w : World) (b m n : Nat) (P Q : List Int) (hP : ∀ k ∈ P, 0 ≤ k) (hQ : ∀ k ∈ Q, k < 0) (hm : P.length = m) (hn : (P ++ Q).length = n) (hn2 : n ≤ 1000) (hb : w.heap[b]? = some (.cells (intsOf (P ++ Q)).toArray 3 (0, 0))) :
    Calls Try.prog 94 #[.slice (some ⟨b, 0, none⟩) n n, .func (.func 95) #[] #[]] w (DelPost w b m n P) := by
  have hI := row_ints hb (by unfold maxLen; omega)
  rw [hn] at hI
  have HI := Lib.hid hI
  have hbl := lt_of_block hb
  have hcell : ∀ k x, (P ++ Q)[k]? = some x → w.cell? ⟨b, k, none⟩ = some (.int .i64 x) := fun k x hx => by
    have := intsOf_get (P ++ Q) k x hx
    simp [World.cell?, hb, this]
  have hfr : ∀ k, w.frozen? ⟨b, k, none⟩ = false := fun k => by simp [World.frozen?, hb]
  have hsome : ∀ k, k < n → (w.cell? ⟨b, k, none⟩).isSome = true := fun k hk => by
    obtain ⟨x, hx⟩ : ∃ x, (P ++ Q)[k]? = some x := ⟨_, List.getElem?_eq_getElem (by omega)⟩
    rw [hcell k x hx]; rfl
  have HX := Lib.hid (indexF_any 95 #[] eNeeds1 (some ⟨b, 0, none⟩) n n (P ++ Q) w (fun j W => W = w ∧ j ≤ m) (fun j W => W = w ∧ j = m) hn.symm (by unfold maxLen; omega) (fun j W h => by rw [h.1]; exact hI)
    (fun j x W hx h => by
      obtain ⟨rfl, hj⟩ := h
      refine (needs1_any x _).mono ?_
      rintro e w' ⟨rfl, rfl⟩
      by_cases hjm : j < m
      · rw [List.getElem?_append_left (by omega)] at hx
        have := hP x (List.mem_of_getElem? hx)
        exact .inr ⟨ret_bool (decide_eq_false (by omega)), rfl, by omega⟩
      · rw [List.getElem?_append_right (by omega)] at hx
        have := hQ x (List.mem_of_getElem? hx)
        exact .inl ⟨ret_bool (decide_eq_true this), rfl, by omega⟩) ⟨rfl, Nat.zero_le _⟩)
  have HN := Lib.hid hn
  have HQ : Hid (∀ k x, (P ++ Q)[k]? = some x → m ≤ k → x < 0) := Lib.hid (fun k x hx hk => by
    rw [List.getElem?_append_right (by omega)] at hx
    exact hQ x (List.mem_of_getElem? hx))
  have hmn : m ≤ n := by rw [← hn, List.length_append]; omega
  have HE : Hid (∀ W, W = w ∨ (∃ vs, W = w.setCells b m vs) → DelPost w b m n P (.returned (.slice (some ⟨b, 0, none⟩) m n)) W) := Lib.hid (fun W hW => by
    refine ⟨rfl, ⟨some ⟨b, 0, none⟩, n, by rw [hm], by omega, by unfold maxLen; omega, fun i x hi => ⟨b, 0, rfl, ?_, ?_⟩⟩, ?_⟩
    · rcases hW with rfl | ⟨vs, rfl⟩
      · exact hbl
      · have := (kp_setCells w b vs m w (Kp.refl _ _)).size; omega
    · have hil : i < m := by have := (List.getElem?_eq_some_iff.1 hi).1; omega
      have hc := hcell i x (by rw [List.getElem?_append_left (by omega)]; exact hi)
      rcases hW with rfl | ⟨vs, rfl⟩
      · rw [Nat.zero_add]; exact hc
      · rw [Nat.zero_add, World.cell?_setCells_out _ _ _ _ _ (fun _ _ => .inl hil)]; exact hc
    · rcases hW with rfl | ⟨vs, rfl⟩
      · exact Kp.refl _ _
      · exact kp_setCells w b vs m w (Kp.refl _ _))
  have HC := Lib.hid hcell
  clear hI hP hQ hm hn hb
  by_cases hnm : m < n
  · have hne1 : ((m : Int) == -1) = false := beq_eq_false_iff_ne.2 (by omega)
    have hcl : ∀ ty, (Builtin.clear_ #[23] ty #[.slice (some ⟨b, m, none⟩) (n - m) (n - m)]).run Try.prog w = .ok (.tuple #[]) (w.setCells b m (List.replicate (n - m) (.int .i64 0))) := fun ty =>
      Lib.run_clear_slice w _ _ ty _ Try.underlying23 ezero rfl rfl b m _ _ (by omega) (fun j hj => hsome _ (by omega)) (fun j hj => hfr _)
    clear hsome hcell
    go_enter Try.func94, Try.ntmps94
    go_wp2_with fail
    refine HX.out.mono ?_
    rintro e w1 (⟨j, hj, rfl, rfl, rfl⟩ | ⟨rfl, rfl, hx⟩)
    · go_wp2
      go_loopw [5, 6, 7] (fun s5 s6 s7 wr => ∃ k : Nat, s5 = .int .i64 (j : Int) ∧ s6 = .int .i64 (k : Int) ∧ j < k ∧ k ≤ n ∧ wr = w1) (fun s5 s6 s7 _ => n - (intOf s6).toNat)
      case atStart => exact ⟨j + 1, rfl, by go_num, by omega, by omega, rfl⟩
      case round =>
        obtain ⟨k, rfl, rfl, hk1, hk2, rfl⟩ := hrel
        by_cases hlt : k < n
        · obtain ⟨x, hx⟩ : ∃ x, (P ++ Q)[k]? = some x := ⟨_, List.getElem?_eq_getElem (by rw [HN.out]; exact hlt)⟩
          have hc := HC.out k x hx
          have hx0 := HQ.out k x hx (by omega)
          have hd : decide (x < 0) = true := decide_eq_true hx0
          have HCL := Lib.hid (needs1_any x wr)
          clear hx
          go_wp2_with fail
          refine HCL.out.mono ?_
          rw [hd]
          rintro e w2 ⟨rfl, rfl⟩
          go_wp2
          exact ⟨⟨k + 1, rfl, by go_num, by omega, by omega, by first | rfl | trivial⟩, by simp [intOf]; omega⟩
        · have hkn : k = n := by omega
          subst hkn
          go_wp2
          go_ret
          exact HE.out _ (.inr ⟨_, rfl⟩)
    · omega
  · have hmm : m = n := by omega
    subst hmm
    clear hsome hcell
    go_enter Try.func94, Try.ntmps94
    go_wp2_with fail
    refine HX.out.mono ?_
    rintro e w1 (⟨j, hj, rfl, rfl, rfl⟩ | ⟨rfl, rfl, hx⟩)
    · omega
    · go_wp2
      go_ret
      exact HE.out _ (.inl rfl)
theorem flds_split {n nin : Nat} {o a b c k : Int} (h : mayOp n nin ⟨o, a, b, c, k⟩ = true) : ∃ m : Nat, kids o = (m : Int) ∧ m ≤ 3 ∧ (∀ k ∈ [a, b, c].take m, 0 ≤ k) ∧ (∀ k ∈ [a, b, c].drop m, k < 0) := by
  obtain ⟨h0, h1, h2⟩ := may_flds h
  refine ⟨(kids o).toNat, by have h0 : 0 ≤ kids o := h0
                             omega, by rcases kids_cases o with e | e | e | e | e <;> omega, fun k hk => (h1 k hk).1, fun k hk => by rw [h2 k hk]; omega⟩
theorem sneed_end (w : World) (bx : Obj) (o a b c k : Int) (m : Nat) (hp : o ≠ 21) (hk : kids o = (m : Int)) (T : TypeId) (w2 : World) (hi : Ints w2 (.slice (some ⟨w.heap.size + 1, 0, none⟩) m 3) ([a, b, c].take m)) (hkp : Kp (fun i => i = w.heap.size + 1) ((w.alloc bx).alloc (.cells #[.int .i64 a, .int .i64 b, .int .i64 c] T)) w2) :
    NeedPost w ⟨o, a, b, c, k⟩ (.returned (.slice (some ⟨w.heap.size + 1, 0, none⟩) m 3)) w2 :=
  ⟨_, rfl, by rw [need_take (x := ⟨o, a, b, c, k⟩) hp hk]; exact hi, (below2 w bx _).trans (hkp.below (by simp; omega) (fun i _ e => by rw [e]; omega)), fun g o' n' c' e => by simp only [Value.slice.injEq, Option.some.injEq, Addr.mk.injEq] at e; omega⟩
set_option maxHeartbeats 1600000 in
theorem sneeds_any (w : World) (x : Op5) (n nin : Nat) (h : mayOp n nin x = true) : Calls Try.prog 55 #[opV x] w (NeedPost w x) := by
  obtain ⟨o, a, b, c, k⟩ := x
  unfold opV
  by_cases hp : o = 21
  · subst hp
    have HE := Lib.hid (need_end0 w)
    clear h
    go_enter Try.func55, Try.ntmps55
    go_wp2
    go_ret
    exact HE.out _ _ _ _ _ (below_new _ _)
  · obtain ⟨m, hk, hm3, hP, hQ⟩ := flds_split h
    have hbx := heap_alloc_new (w.alloc (.cells #[.int .i64 o, .int .i64 a, .int .i64 b, .int .i64 c, .int .i64 k] 79)) (.cells #[.int .i64 a, .int .i64 b, .int .i64 c] 3)
    have hs : (w.alloc (.cells #[.int .i64 o, .int .i64 a, .int .i64 b, .int .i64 c, .int .i64 k] 79)).heap.size = w.heap.size + 1 := by simp
    rw [hs] at hbx
    have HD := Lib.hid (del_any _ (w.heap.size + 1) m 3 ([a, b, c].take m) ([a, b, c].drop m) hP hQ (by rw [List.length_take]; simp; omega) (by rw [List.take_append_drop]; rfl) (by omega) (by rw [List.take_append_drop]; exact hbx))
    have HE := Lib.hid (fun T w2 => sneed_end w (.cells #[.int .i64 o, .int .i64 a, .int .i64 b, .int .i64 c, .int .i64 k] 79) o a b c k m hp hk T w2)
    clear hk hP hQ hbx hs h
    go_enter Try.func55, Try.ntmps55
    go_wp2_with fail
    refine HD.out.mono ?_
    rintro e w2 ⟨rfl, hi, hkp⟩
    have H1 := Lib.hid hi
    have H2 := Lib.hid hkp
    clear hi hkp
    go_wp2
    go_ret
    exact HE.out _ _ H1.out H2.out
end Go.Proofs.Ytcphjehjdhgheaa.Nt

namespace Go.Proofs.Ytcphjehjdhgheaa.Nt
open Go.ChangeShapes Go.WideShapes Go.ChangeAt Go.RowKit Go.Proofs.Ytcphjehjdhgheaa.Tr
set_option linter.unusedVariables false
set_option linter.unusedSimpArgs false

theorem may_split {n nin m : Nat} {o a b c k : Int} (hk : kids o = (m : Int)) : mayOp n nin ⟨o, a, b, c, k⟩ = (!(([a, b, c].take m).any fun y => !isOp n y) && plainB nin ⟨o, a, b, c, k⟩ && ([a, b, c].drop m).all (fun y => y == -1)) := by
  have hm : m ≤ 3 := by rcases kids_cases o with e | e | e | e | e <;> omega
  have h0 : decide ((0 : Int) ≤ kids o) = true := by rw [hk]; simp
  unfold mayOp
  show (decide (0 ≤ kids o) && plainB nin ⟨o, a, b, c, k⟩ && fldB n a (kids o) 0 && fldB n b (kids o) 1 && fldB n c (kids o) 2) = _
  rw [h0, hk]
  unfold fldB
  obtain rfl | rfl | rfl | rfl : m = 0 ∨ m = 1 ∨ m = 2 ∨ m = 3 := by omega
  all_goals
    simp
    cases plainB nin ⟨o, a, b, c, k⟩ <;> simp [Bool.and_assoc]
theorem may_neg {n nin : Nat} {x : Op5} (hk : kids x.op = -1) : mayOp n nin x = false := by unfold mayOp; rw [hk]; simp
/-- All operators so far may be. -/
def okOps (N : Net) (i : Nat) : Prop := ∀ k x, k < i → N.ops[k]? = some x → mayOp N.ops.length N.ins.length x = true
theorem may_true {N : Net} (h1 : N.ops.length ≤ 100000) (h2 : okOps N N.ops.length) (h3 : N.roots.any (fun k => !isOp N.ops.length k) = false) : mayN N = true := by
  unfold mayN
  rw [decide_eq_true h1, Bool.true_and, Bool.and_eq_true]
  refine ⟨List.all_eq_true.2 (fun x hx => ?_), List.all_eq_true.2 (fun k hk => ?_)⟩
  · obtain ⟨i, hi, e⟩ := List.mem_iff_getElem.1 hx
    exact h2 i x hi (by rw [List.getElem?_eq_getElem hi, e])
  · have := List.any_eq_false.1 h3 k hk
    simpa using this
theorem may_bad {N : Net} {i : Nat} {x : Op5} (hx : N.ops[i]? = some x) (h : mayOp N.ops.length N.ins.length x = false) : mayN N = false := by
  cases hm : mayN N with
  | false => rfl
  | true =>
    unfold mayN at hm
    simp only [Bool.and_eq_true, List.all_eq_true] at hm
    have := hm.1.2 x (List.mem_of_getElem? hx)
    rw [h] at this; cases this
theorem may_root {N : Net} (h : N.roots.any (fun k => !isOp N.ops.length k) = true) : mayN N = false := by
  cases hm : mayN N with
  | false => rfl
  | true =>
    unfold mayN at hm
    simp only [Bool.and_eq_true, List.all_eq_true] at hm
    obtain ⟨k, hk, e⟩ := List.any_eq_true.1 h
    rw [hm.2 k hk] at e; cases e
theorem may_many {N : Net} (h : ¬ N.ops.length ≤ 100000) : mayN N = false := by unfold mayN; rw [decide_eq_false h]; rfl
theorem eMay1 : ∀ args w, (callFunc 122 args).run Try.prog w = .ok (.enter 122 args) w := by intro a w; kernel_rfl
/-- The net's own box. -/
structure NetBox (w : World) (b T : Nat) (ov rv iv : Value) : Prop where
  cell : w.heap[b]? = some (.cells #[ov, rv, iv] T (0, 0))
theorem NetBox.lt {w : World} {b T : Nat} {ov rv iv : Value} (h : NetBox w b T ov rv iv) : b < w.heap.size := lt_of_block h.cell
theorem NetBox.ats {w : World} {b T : Nat} {ov rv iv : Value} (h : NetBox w b T ov rv iv) : w.cell? ⟨b, 0, none⟩ = some ov ∧ w.cell? ⟨b, 1, none⟩ = some rv ∧ w.cell? ⟨b, 2, none⟩ = some iv := by
  have := h.cell
  refine ⟨?_, ?_, ?_⟩ <;> simp [World.cell?, this]
theorem NetBox.below {w w' : World} {b T B : Nat} {ov rv iv : Value} (h : NetBox w b T ov rv iv) (hb : Below B w w') (hB : b < B) : NetBox w' b T ov rv iv := ⟨(hb.block b hB).trans h.cell⟩
theorem box_new (w : World) (T : Nat) (ov rv iv : Value) : NetBox (w.alloc (.cells #[ov, rv, iv] T)) w.heap.size T ov rv iv := ⟨heap_alloc_new _ _⟩
theorem none_cont (g : Option Addr) (m cc n c b T : Nat) (A : Option Addr) (rv iv : Value) (l : List Int) (w : World) (hb : NetBox w b T (.slice A n c) rv iv) (hm : m = l.length) (hmm : m ≤ maxLen) (hI : Ints w (.slice g m cc) l) :
    Calls Try.prog 54 #[.slice g m cc, .func (.func 122) #[] #[.pointer (some ⟨b, 0, none⟩)]] w (fun e w' => e = .returned (.bool (l.any (fun y => !isOp n y))) ∧ ∃ q, w' = w.drewN q) :=
  cont_pure 122 #[.pointer (some ⟨b, 0, none⟩)] eMay1 g m cc l w _ hm hmm hI (fun x _ q => (none_any x b n c A (w.drewN q) hb.ats.1).mono (by rintro e w' ⟨rfl, rfl⟩; exact ⟨rfl, q, rfl⟩))
set_option maxRecDepth 100000 in
set_option maxHeartbeats 4000000 in
theorem may_any (w : World) (ov rv iv : Value) (N : Net) (h : NetR w ov rv iv N) (hni : N.ins.length ≤ 100000) : Calls Try.prog 89 #[.agg #[ov, rv, iv]] w (fun e w' => e = .returned (.bool (mayN N)) ∧ Below w.heap.size w w') := by
  obtain ⟨h1, h2, h3⟩ := h
  obtain ⟨A, c, rfl, z1, z2⟩ := h1.form
  obtain ⟨A2, c2, rfl, z3, z4⟩ := ints_form h2
  obtain ⟨A3, c3, rfl, z5, z6⟩ := ints_form h3
  obtain ⟨n, hn⟩ : ∃ n, N.ops.length = n := ⟨_, rfl⟩
  obtain ⟨nr, hnr⟩ : ∃ n, N.roots.length = n := ⟨_, rfl⟩
  obtain ⟨ni, hni'⟩ : ∃ n, N.ins.length = n := ⟨_, rfl⟩
  rw [hn] at h1 z1 ⊢
  rw [hnr] at h2 z3 ⊢
  rw [hni'] at h3 z5 hni ⊢
  have HN := Lib.hid hn
  have HNR := Lib.hid hnr
  have HNI := Lib.hid hni'
  have H1 := Lib.hid h1
  have H2 := Lib.hid h2
  have hnr2 : nr ≤ maxLen := by omega
  have hnr3 := Lib.hid hnr2
  unfold maxLen at z2 z4 z6 hnr2
  clear h1 h2 h3 hn hnr hni'
  obtain ⟨w1, hw1⟩ : ∃ W, w.alloc (.cells #[.slice A n c, .slice A2 nr c2, .slice A3 ni c3] 30) = W := ⟨_, rfl⟩
  have HW1 := Lib.hid hw1
  have HB1 : Hid (Below w.heap.size w w1) := Lib.hid (by rw [← hw1]; exact below_new _ _)
  have HX1 : Hid (NetBox w1 w.heap.size 30 (.slice A n c) (.slice A2 nr c2) (.slice A3 ni c3)) := Lib.hid (by rw [← hw1]; exact box_new _ _ _ _ _)
  have hs1 : w.heap.size < w1.heap.size := HX1.out.lt
  obtain ⟨p0, p1, p2⟩ := HX1.out.ats
  clear hw1
  by_cases hbig : n ≤ 100000
  case neg =>
    have hd : ((100000 : Int) < (n : Int)) := by omega
    have HM : Hid (mayN N = false) := Lib.hid (may_many (by rw [HN.out]; exact hbig))
    clear hbig
    go_enter Try.func89, Try.ntmps89
    go_wp2_with fail
    go_ret
    exact ⟨ret_bool HM.out.symm, below_new _ _⟩
  have hd : ¬ ((100000 : Int) < (n : Int)) := by omega
  obtain ⟨rb, hrb⟩ : ∃ b, N.roots.any (fun k => !isOp n k) = b := ⟨_, rfl⟩
  have HRB := Lib.hid hrb
  have HC1 := Lib.hid (none_cont A2 nr c2 n c w.heap.size 30 A _ _ N.roots w1 HX1.out HNR.out.symm hnr3.out (H2.out.below HB1.out (Nat.le_refl _)))
  rw [hrb] at HC1
  clear hrb
  cases rb with
  | true =>
    have HM : Hid (mayN N = false) := Lib.hid (may_root (by rw [HN.out]; exact HRB.out))
    go_enter Try.func89, Try.ntmps89
    go_wp2_with fail
    rw [HW1.out]
    go_wp2_with fail
    refine HC1.out.mono ?_
    rintro e w2 ⟨rfl, q, rfl⟩
    go_wp2
    go_ret
    exact ⟨ret_bool HM.out.symm, below_drewN HB1.out q⟩
  | false =>
    go_enter Try.func89, Try.ntmps89
    go_wp2_with fail
    rw [HW1.out]
    go_wp2_with fail
    refine HC1.out.mono ?_
    rintro e w2 ⟨rfl, q, rfl⟩
    have HB2 : Hid (Below w1.heap.size w1 (w1.drewN q)) := Lib.hid (below_drewN (Below.refl _ _) q)
    obtain ⟨w2, hw2⟩ : ∃ W, w1.drewN q = W := ⟨_, rfl⟩
    rw [hw2] at HB2 ⊢
    clear hw2
    obtain ⟨q0, q1, q2⟩ := (HX1.out.below HB2.out hs1).ats
    go_wp2_with fail
    go_loopw [24] (fun vi wr => ∃ i : Nat, i ≤ n ∧ vi = .int .i64 (i : Int) ∧ Below w1.heap.size w1 wr ∧ okOps N i) (fun vi _ => n - (intOf vi).toNat)
    case atStart => exact ⟨0, Nat.zero_le _, rfl, HB2.out, fun k x h => by omega⟩
    case round =>
      obtain ⟨i, hi, rfl, hb, hok⟩ := hrel
      have HBR := Lib.hid hb
      have HOK := Lib.hid hok
      have hsr := hb.size
      have HXR := Lib.hid (HX1.out.below hb hs1)
      clear hb hok
      by_cases hlt : i < n
      · obtain ⟨x, hx⟩ : ∃ x, N.ops[i]? = some x := ⟨_, List.getElem?_eq_getElem (by rw [HN.out]; exact hlt)⟩
        have HX := Lib.hid hx
        obtain ⟨g, o, rfl, hg, d0, d1, d2, d3, d4⟩ := ((H1.out.below HB1.out (Nat.le_refl _)).below HBR.out (Nat.le_refl _)).at hx
        clear hx
        obtain ⟨xo, xa, xb, xc, xn⟩ := x
        dsimp only at d0 d1 d2 d3 d4
        obtain ⟨w5, hw5⟩ : ∃ W, wr.alloc (.cells #[.int .i64 xo, .int .i64 xa, .int .i64 xb, .int .i64 xc, .int .i64 xn] 79) = W := ⟨_, rfl⟩
        have HW5 := Lib.hid hw5
        have HB5 : Hid (Below w1.heap.size w1 w5) := Lib.hid (by rw [← hw5]; exact HBR.out.trans ((below_new _ _).mono hsr))
        have hs5 : w5.heap.size = wr.heap.size + 1 := by rw [← hw5]; simp
        have hc5 := heap_alloc_new wr (.cells #[.int .i64 xo, .int .i64 xa, .int .i64 xb, .int .i64 xc, .int .i64 xn] 79)
        rw [hw5] at hc5
        have HC5 := Lib.hid hc5
        have e0 : w5.cell? ⟨wr.heap.size, 0, none⟩ = some (.int .i64 xo) := by simp [World.cell?, hc5]
        have e1 : w5.cell? ⟨wr.heap.size, 1, none⟩ = some (.int .i64 xa) := by simp [World.cell?, hc5]
        have e2 : w5.cell? ⟨wr.heap.size, 2, none⟩ = some (.int .i64 xb) := by simp [World.cell?, hc5]
        have e3 : w5.cell? ⟨wr.heap.size, 3, none⟩ = some (.int .i64 xc) := by simp [World.cell?, hc5]
        obtain ⟨w7, hw7⟩ : ∃ W, w5.alloc (.cells #[.int .i64 xa, .int .i64 xb, .int .i64 xc] 163) = W := ⟨_, rfl⟩
        have HW7 := Lib.hid hw7
        have HB7 : Hid (Below w1.heap.size w1 w7) := Lib.hid (by rw [← hw7]; exact HB5.out.trans ((below_new _ _).mono HB5.out.size))
        have HX7 := Lib.hid (HX1.out.below HB7.out hs1)
        have hc7 := heap_alloc_new w5 (.cells #[.int .i64 xa, .int .i64 xb, .int .i64 xc] 163)
        rw [hw7, hs5] at hc7
        have hc75 : w7.heap[wr.heap.size]? = some (.cells #[.int .i64 xo, .int .i64 xa, .int .i64 xb, .int .i64 xc, .int .i64 xn] 79 (0, 0)) := by rw [← hw7, (below_new w5 _).block _ (by omega)]; exact hc5
        have HC7 := Lib.hid hc7
        have HC75 := Lib.hid hc75
        obtain ⟨kk, hkk⟩ : ∃ kk, kids xo = kk := ⟨_, rfl⟩
        have HKK := Lib.hid hkk
        have HOP : Hid (∀ W, Calls Try.prog 123 #[.int .i64 xo] W (fun e w' => e = .returned (.int .i64 kk) ∧ w' = W)) := Lib.hid (fun W => by have := noper_any xo W; rw [hkk] at this; exact this)
        clear hw5 hw7 hc5 hc7 hc75 hkk
        by_cases hneg : kk < 0
        · have HM : Hid (mayN N = false) := Lib.hid (may_bad HX.out (may_neg (by have := HKK.out; rcases kids_cases xo with e | e | e | e | e <;> first | exact e | omega)))
          go_wp2_with fail
          rw [HW5.out]
          go_wp2_with fail
          refine (HOP.out _).mono ?_
          rintro e w2' ⟨rfl, rfl⟩
          go_wp2_with fail
          go_ret
          rw [HW7.out]
          exact ⟨ret_bool HM.out.symm, HB1.out.trans (HB7.out.mono HB1.out.size)⟩
        · obtain ⟨m, rfl⟩ : ∃ m : Nat, kk = (m : Int) := ⟨kk.toNat, by omega⟩
          have hm3 : m ≤ 3 := by have := HKK.out; rcases kids_cases xo with e | e | e | e | e <;> omega
          obtain ⟨l3, hl3⟩ : ∃ l, [xa, xb, xc] = l := ⟨_, rfl⟩
          have hl3l : l3.length = 3 := by rw [← hl3]; rfl
          obtain ⟨fb, hfb⟩ : ∃ b, (l3.take m).any (fun y => !isOp n y) = b := ⟨_, rfl⟩
          obtain ⟨pb, hpb⟩ : ∃ b, plainB ni ⟨xo, xa, xb, xc, xn⟩ = b := ⟨_, rfl⟩
          have hmo := may_split (n := n) (nin := ni) (a := xa) (b := xb) (c := xc) (k := xn) HKK.out
          rw [hl3, hfb, hpb] at hmo
          have HMO := Lib.hid hmo
          have hcn := none_cont (some ⟨wr.heap.size + 1, 0, none⟩) m 3 n c w.heap.size 30 (some ⟨g, o, none⟩) _ _ (l3.take m) w7 HX7.out (by rw [List.length_take]; omega) (by unfold maxLen; omega) (by rw [← hl3]; exact lit3 HC7.out hm3)
          rw [hfb] at hcn
          have HCN := Lib.hid hcn
          have HBE : Hid (∀ W, Calls Try.prog 124 #[.agg #[.slice (some ⟨g, o, none⟩) n c, .slice A2 nr c2, .slice A3 ni c3], opV ⟨xo, xa, xb, xc, xn⟩] W (fun e w' => e = .returned (.bool pb) ∧ Below W.heap.size W w')) := Lib.hid (fun W => by have := bears_any W (.slice (some ⟨g, o, none⟩) n c) (.slice A2 nr c2) A3 c3 ni ⟨xo, xa, xb, xc, xn⟩ hni; rw [hpb] at this; exact this)
          unfold opV at HBE
          have HL3 := Lib.hid hl3
          have HL3L := Lib.hid hl3l
          have hd3 : (m : Int) ≤ 3 := by omega
          have hd0 : decide ((m : Int) < 0) = false := decide_eq_false (by omega)
          clear hmo hcn hl3 hl3l hfb hpb
          cases fb with
          | true =>
            have HM : Hid (mayN N = false) := Lib.hid (may_bad HX.out (by rw [HN.out, HNI.out, HMO.out]; rfl))
            go_wp2_with fail
            rw [HW5.out]
            go_wp2_with fail
            refine (HOP.out _).mono ?_
            rintro e w2' ⟨rfl, rfl⟩
            go_wp2_with fail
            rw [HW7.out]
            go_wp2_with fail
            refine HCN.out.mono ?_
            rintro e w8 ⟨rfl, q8, rfl⟩
            go_wp2_with fail
            go_ret
            exact ⟨ret_bool HM.out.symm, HB1.out.trans ((below_drewN HB7.out q8).mono HB1.out.size)⟩
          | false =>
            have hX8 := fun q => (HX7.out.below (below_drewN (Below.refl w7.heap.size w7) q) HX7.out.lt).ats
            have h8c := fun q k => (show (w7.drewN q).cell? ⟨wr.heap.size, k, none⟩ = w7.cell? ⟨wr.heap.size, k, none⟩ from rfl)
            have H8 : Hid (∀ W, (∃ q, W = w7.drewN q) → (W.cell? ⟨w.heap.size, 0, none⟩ = some (.slice (some ⟨g, o, none⟩) n c) ∧ W.cell? ⟨w.heap.size, 1, none⟩ = some (.slice A2 nr c2) ∧ W.cell? ⟨w.heap.size, 2, none⟩ = some (.slice A3 ni c3)) ∧
                (W.cell? ⟨wr.heap.size, 0, none⟩ = some (.int .i64 xo) ∧ W.cell? ⟨wr.heap.size, 1, none⟩ = some (.int .i64 xa) ∧ W.cell? ⟨wr.heap.size, 2, none⟩ = some (.int .i64 xb) ∧ W.cell? ⟨wr.heap.size, 3, none⟩ = some (.int .i64 xc) ∧ W.cell? ⟨wr.heap.size, 4, none⟩ = some (.int .i64 xn)) ∧
                W.heap[wr.heap.size + 1]? = some (.cells #[.int .i64 xa, .int .i64 xb, .int .i64 xc] 163 (0, 0)) ∧ Below w1.heap.size w1 W) := Lib.hid (fun W hW => by
              obtain ⟨q, rfl⟩ := hW
              have := HC75.out
              exact ⟨hX8 q, ⟨by simp [World.cell?, this], by simp [World.cell?, this], by simp [World.cell?, this], by simp [World.cell?, this], by simp [World.cell?, this]⟩, HC7.out, below_drewN HB7.out q⟩)
            clear hX8 h8c
            go_wp2_with fail
            rw [HW5.out]
            go_wp2_with fail
            refine (HOP.out _).mono ?_
            rintro e w2' ⟨rfl, rfl⟩
            go_wp2_with fail
            rw [HW7.out]
            go_wp2_with fail
            refine HCN.out.mono ?_
            rintro e w8 ⟨rfl, hq8⟩
            obtain ⟨⟨r0, r1, r2⟩, ⟨t0, t1, t2, t3, t4⟩, hc8, hb8⟩ := H8.out w8 hq8
            have HC8 := Lib.hid hc8
            have HB8 := Lib.hid hb8
            clear hq8 hc8 hb8
            go_wp2_with fail
            refine (HBE.out w8).mono ?_
            rintro e w9 ⟨rfl, hb9⟩
            have HB9 := Lib.hid hb9
            clear hb9
            cases pb with
            | false =>
              have HM : Hid (mayN N = false) := Lib.hid (may_bad HX.out (by rw [HN.out, HNI.out, HMO.out]; simp))
              go_wp2_with fail
              go_ret
              exact ⟨ret_bool HM.out.symm, HB1.out.trans ((HB8.out.trans (HB9.out.mono HB8.out.size)).mono HB1.out.size)⟩
            | true =>
              have HC9 : Hid (∀ k y, (l3.drop m)[k]? = some y → w9.cell? ⟨wr.heap.size + 1, m + k, none⟩ = some (.int .i64 y)) := Lib.hid (fun k y hy => by
                have h9 : w9.heap[wr.heap.size + 1]? = some (.cells #[.int .i64 xa, .int .i64 xb, .int .i64 xc] 163 (0, 0)) := (HB9.out.block _ (lt_of_block HC8.out)).trans HC8.out
                rw [List.getElem?_drop, ← HL3.out] at hy
                have hmk : m + k < 3 := by have := (List.getElem?_eq_some_iff.1 hy).1; simpa using this
                obtain e | e | e : m + k = 0 ∨ m + k = 1 ∨ m + k = 2 := by omega
                all_goals
                  rw [e] at hy ⊢
                  simp at hy
                  subst hy
                  simp [World.cell?, h9])
              have HOK2 : Hid ((∀ k, k < 3 - m → (l3.drop m)[k]? = some (-1)) → okOps N (i + 1)) := Lib.hid (fun hall k y hk hy => by
                by_cases e : k = i
                · subst e
                  rw [HX.out] at hy; injection hy with hy; subst hy
                  rw [HN.out, HNI.out, HMO.out]
                  have : (l3.drop m).all (fun y => y == -1) = true := List.all_eq_true.2 (fun z hz => by
                    obtain ⟨j, hj, ej⟩ := List.mem_iff_getElem.1 hz
                    have hj' : j < 3 - m := by rw [List.length_drop, HL3L.out] at hj; exact hj
                    have h2 := hall j hj'
                    rw [List.getElem?_eq_getElem hj, ej] at h2
                    injection h2 with h2; rw [h2]; rfl)
                  rw [this]; rfl
                · exact HOK.out k y (by omega) hy)
              have HMF : Hid ((∃ k y, (l3.drop m)[k]? = some y ∧ y ≠ -1) → mayN N = false) := Lib.hid (fun hky => may_bad HX.out (by
                obtain ⟨k, y, hk, hy⟩ := hky
                rw [HN.out, HNI.out, HMO.out]
                have : (l3.drop m).all (fun y => y == -1) = false := by
                  rw [List.all_eq_false]
                  exact ⟨y, List.mem_of_getElem? hk, by simpa using hy⟩
                rw [this, Bool.and_false]))
              have hdl : (l3.drop m).length = 3 - m := by rw [List.length_drop, HL3L.out]
              have HDL := Lib.hid hdl
              have HB19 : Hid (Below w1.heap.size w1 w9) := Lib.hid (HB8.out.trans (HB9.out.mono HB8.out.size))
              clear hdl
              by_cases hme : m = 3
              · have HO := Lib.hid (HOK2.out (fun j hj => by omega))
                subst hme
                go_wp2_with fail
                go_loopw [55] (fun vk wk => vk = .int .i64 0 ∧ wk = w9) (fun vk _ => 0)
                case atStart => exact ⟨rfl, rfl⟩
                case round =>
                  obtain ⟨rfl, rfl⟩ := hrel
                  go_wp2_with fail
                  exact ⟨⟨i + 1, by omega, by go_num, HB19.out, HO.out⟩, by simp [intOf]; omega⟩
              · have hml : m < 3 := by omega
                have hml2 : (m : Int) < 3 := by omega
                go_wp2_with fail
                go_loopw [55] (fun vk wk => ∃ k : Nat, k ≤ 3 - m ∧ vk = .int .i64 (k : Int) ∧ wk = w9 ∧ ∀ j, j < k → (l3.drop m)[j]? = some (-1)) (fun vk _ => (3 - m) - (intOf vk).toNat)
                case atStart => exact ⟨0, Nat.zero_le _, rfl, rfl, fun j h => by omega⟩
                case round =>
                  obtain ⟨k, hk, rfl, rfl, hall⟩ := hrel
                  have HALL := Lib.hid hall
                  clear hall
                  by_cases hkl : k < 3 - m
                  · obtain ⟨y, hy⟩ : ∃ y, (l3.drop m)[k]? = some y := ⟨_, List.getElem?_eq_getElem (by rw [HDL.out]; exact hkl)⟩
                    have hcy := HC9.out k y hy
                    have HY := Lib.hid hy
                    clear hy
                    by_cases hy1 : y = -1
                    · subst hy1
                      have HA2 : Hid (∀ j, j < k + 1 → (l3.drop m)[j]? = some (-1)) := Lib.hid (fun j hj => by
                        by_cases e : j = k
                        · rw [e]; exact HY.out
                        · exact HALL.out j (by omega))
                      go_wp2_with fail
                      exact ⟨⟨k + 1, by omega, by go_num, by first | rfl | trivial, HA2.out⟩, by simp [intOf]; omega⟩
                    · have hyb : (y != -1) = true := by simpa using hy1
                      have HM := Lib.hid (HMF.out ⟨k, y, HY.out, hy1⟩)
                      go_wp2_with fail
                      go_ret
                      exact ⟨ret_bool HM.out.symm, HB1.out.trans (HB19.out.mono HB1.out.size)⟩
                  · have HO := Lib.hid (HOK2.out (fun j hj => HALL.out j (by omega)))
                    go_wp2_with fail
                    exact ⟨⟨i + 1, by omega, by go_num, HB19.out, HO.out⟩, by simp [intOf]; omega⟩
      · have HM : Hid (mayN N = true) := Lib.hid (may_true (by rw [HN.out]; exact hbig) (by
          have e : i = n := by omega
          rw [HN.out, ← e]; exact HOK.out) (by rw [HN.out]; exact HRB.out))
        go_wp2_with fail
        go_ret
        exact ⟨ret_bool HM.out.symm, HB1.out.trans (HBR.out.mono HB1.out.size)⟩
end Go.Proofs.Ytcphjehjdhgheaa.Nt
