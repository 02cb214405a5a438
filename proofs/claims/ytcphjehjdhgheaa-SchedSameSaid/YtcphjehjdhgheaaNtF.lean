/- What an operator needs, by layer sched: its operands that are not below 0. Conditions: it is one of a net. -/
import Derived.Test.YtcphjehjdhgheaaNtE
import Derived.Test.YtcphjehjdhgheaaNhA
import Derived.Lib.SliceRun
namespace Go.Proofs.Ytcphjehjdhgheaa.Nt
open Go.ChangeShapes Go.WideShapes Go.ChangeAt Go.RowKit Go.Proofs.Ytcphjehjdhgheaa.Tr
set_option linter.unusedVariables false
set_option linter.unusedSimpArgs false

theorem needs1_any (k : Int) (w : World) : Calls Try.prog 95 #[.int .i64 k] w fun e w' => e = .returned (.bool (decide (k < 0))) ∧ w' = w := by
  go_enter Try.func95, Try.ntmps95
  go_wp2
  go_ret
  exact ⟨rfl, rfl⟩
theorem eNeeds1 : ∀ args w, (callFunc 95 args).run Try.prog w = .ok (.enter 95 args) w := by intro a w; kernel_rfl
theorem ezero (w : World) : (zeroValue 3).run Try.prog w = .ok (.int .i64 0) w := by kernel_rfl
theorem row_ints {w : World} {b : Nat} {l : List Int} {fr : Nat × Nat} {T : TypeId} (h : w.heap[b]? = some (.cells (intsOf l).toArray T fr)) (hm : l.length ≤ maxLen) : Ints w (.slice (some ⟨b, 0, none⟩) l.length l.length) l := by
  refine ⟨some ⟨b, 0, none⟩, l.length, rfl, Nat.le_refl _, hm, fun i x hi => ⟨b, 0, rfl, lt_of_block h, ?_⟩⟩
  rw [Nat.zero_add]
  have := intsOf_get l i x hi
  simp [World.cell?, h, this]
def DelPost (w : World) (b m n : Nat) (P : List Int) (e : Ending) (w' : World) : Prop := e = .returned (.slice (some ⟨b, 0, none⟩) m n) ∧ Ints w' (.slice (some ⟨b, 0, none⟩) m n) P ∧ Kp (fun i => i = b) w w'
theorem kp_setCells (w : World) (b : Nat) : ∀ (vs : List Value) (o : Nat) (w1 : World), Kp (fun i => i = b) w w1 → Kp (fun i => i = b) w (w1.setCells b o vs) := by
  intro vs
  induction vs with
  | nil => intro o w1 h; exact h
  | cons v vs ih => intro o w1 h; exact ih _ _ (h.setCell (p := ⟨b, o, none⟩) rfl v)
set_option maxHeartbeats 1600000 in
theorem del_any (w : World) (b m n : Nat) (P Q : List Int) (hP : ∀ k ∈ P, 0 ≤ k) (hQ : ∀ k ∈ Q, k < 0) (hm : P.length = m) (hn : (P ++ Q).length = n) (hn2 : n ≤ 1000) (hb : w.heap[b]? = some (.cells (intsOf (P ++ Q)).toArray 3 (0, 0))) :
    Calls Try.prog 94 #[.slice (some ⟨b, 0, none⟩) n n, .func (.func 95) #[] #[]] w (DelPost w b m n P) := by
  have hI := row_ints hb (by unfold maxLen; omega)
  rw [hn] at hI
  have HI := Lib.hid hI
  have hbl := lt_of_block hb
  have hcell : ∀ k x, (P ++ Q)[k]? = some x → w.cell? ⟨b, k, none⟩ = some (.int .i64 x) := fun k x hx => by
    have := intsOf_get (P ++ Q) k x hx
    simp [World.cell?, hb, this]
  have hfr : ∀ k, w.frozen? ⟨b, k, none⟩ = false := fun k => by simp [World.frozen?, hb]
  have hsome : ∀ k, k < n → (w.cell? ⟨b, k, none⟩).isSome = true := fun k hk => by
    obtain ⟨x, hx⟩ : ∃ x, (P ++ Q)[k]? = some x := ⟨_, List.getElem?_eq_getElem (by omega)⟩
    rw [hcell k x hx]; rfl
  have HX := Lib.hid (indexF_any 95 #[] eNeeds1 (some ⟨b, 0, none⟩) n n (P ++ Q) w (fun j W => W = w ∧ j ≤ m) (fun j W => W = w ∧ j = m) hn.symm (by unfold maxLen; omega) (fun j W h => by rw [h.1]; exact hI)
    (fun j x W hx h => by
      obtain ⟨rfl, hj⟩ := h
      refine (needs1_any x _).mono ?_
      rintro e w' ⟨rfl, rfl⟩
      by_cases hjm : j < m
      · rw [List.getElem?_append_left (by omega)] at hx
        have := hP x (List.mem_of_getElem? hx)
        exact .inr ⟨ret_bool (decide_eq_false (by omega)), rfl, by omega⟩
      · rw [List.getElem?_append_right (by omega)] at hx
        have := hQ x (List.mem_of_getElem? hx)
        exact .inl ⟨ret_bool (decide_eq_true this), rfl, by omega⟩) ⟨rfl, Nat.zero_le _⟩)
  have HN := Lib.hid hn
  have HQ : Hid (∀ k x, (P ++ Q)[k]? = some x → m ≤ k → x < 0) := Lib.hid (fun k x hx hk => by
    rw [List.getElem?_append_right (by omega)] at hx
    exact hQ x (List.mem_of_getElem? hx))
  have hmn : m ≤ n := by rw [← hn, List.length_append]; omega
  have HE : Hid (∀ W, W = w ∨ (∃ vs, W = w.setCells b m vs) → DelPost w b m n P (.returned (.slice (some ⟨b, 0, none⟩) m n)) W) := Lib.hid (fun W hW => by
    refine ⟨rfl, ⟨some ⟨b, 0, none⟩, n, by rw [hm], by omega, by unfold maxLen; omega, fun i x hi => ⟨b, 0, rfl, ?_, ?_⟩⟩, ?_⟩
    · rcases hW with rfl | ⟨vs, rfl⟩
      · exact hbl
      · have := (kp_setCells w b vs m w (Kp.refl _ _)).size; omega
    · have hil : i < m := by have := (List.getElem?_eq_some_iff.1 hi).1; omega
      have hc := hcell i x (by rw [List.getElem?_append_left (by omega)]; exact hi)
      rcases hW with rfl | ⟨vs, rfl⟩
      · rw [Nat.zero_add]; exact hc
      · rw [Nat.zero_add, World.cell?_setCells_out _ _ _ _ _ (fun _ _ => .inl hil)]; exact hc
    · rcases hW with rfl | ⟨vs, rfl⟩
      · exact Kp.refl _ _
      · exact kp_setCells w b vs m w (Kp.refl _ _))
  have HC := Lib.hid hcell
  clear hI hP hQ hm hn hb
  by_cases hnm : m < n
  · have hne1 : ((m : Int) == -1) = false := beq_eq_false_iff_ne.2 (by omega)
    have hcl : ∀ ty, (Builtin.clear_ #[23] ty #[.slice (some ⟨b, m, none⟩) (n - m) (n - m)]).run Try.prog w = .ok (.tuple #[]) (w.setCells b m (List.replicate (n - m) (.int .i64 0))) := fun ty =>
      Lib.run_clear_slice w _ _ ty _ Try.underlying23 ezero rfl rfl b m _ _ (by omega) (fun j hj => hsome _ (by omega)) (fun j hj => hfr _)
    clear hsome hcell
    go_enter Try.func94, Try.ntmps94
    go_wp2_with fail
    refine HX.out.mono ?_
    rintro e w1 (⟨j, hj, rfl, rfl, rfl⟩ | ⟨rfl, rfl, hx⟩)
    · go_wp2
      go_loopw [5, 6, 7] (fun s5 s6 s7 wr => ∃ k : Nat, s5 = .int .i64 (j : Int) ∧ s6 = .int .i64 (k : Int) ∧ j < k ∧ k ≤ n ∧ wr = w1) (fun s5 s6 s7 _ => n - (intOf s6).toNat)
      case atStart => exact ⟨j + 1, rfl, by go_num, by omega, by omega, rfl⟩
      case round =>
        obtain ⟨k, rfl, rfl, hk1, hk2, rfl⟩ := hrel
        by_cases hlt : k < n
        · obtain ⟨x, hx⟩ : ∃ x, (P ++ Q)[k]? = some x := ⟨_, List.getElem?_eq_getElem (by rw [HN.out]; exact hlt)⟩
          have hc := HC.out k x hx
          have hx0 := HQ.out k x hx (by omega)
          have hd : decide (x < 0) = true := decide_eq_true hx0
          have HCL := Lib.hid (needs1_any x wr)
          clear hx
          go_wp2_with fail
          refine HCL.out.mono ?_
          rw [hd]
          rintro e w2 ⟨rfl, rfl⟩
          go_wp2
          exact ⟨⟨k + 1, rfl, by go_num, by omega, by omega, by first | rfl | trivial⟩, by simp [intOf]; omega⟩
        · have hkn : k = n := by omega
          subst hkn
          go_wp2
          go_ret
          exact HE.out _ (.inr ⟨_, rfl⟩)
    · omega
  · have hmm : m = n := by omega
    subst hmm
    clear hsome hcell
    go_enter Try.func94, Try.ntmps94
    go_wp2_with fail
    refine HX.out.mono ?_
    rintro e w1 (⟨j, hj, rfl, rfl, rfl⟩ | ⟨rfl, rfl, hx⟩)
    · omega
    · go_wp2
      go_ret
      exact HE.out _ (.inl rfl)
theorem flds_split {n nin : Nat} {o a b c k : Int} (h : mayOp n nin ⟨o, a, b, c, k⟩ = true) : ∃ m : Nat, kids o = (m : Int) ∧ m ≤ 3 ∧ (∀ k ∈ [a, b, c].take m, 0 ≤ k) ∧ (∀ k ∈ [a, b, c].drop m, k < 0) := by
  obtain ⟨h0, h1, h2⟩ := may_flds h
  refine ⟨(kids o).toNat, by have h0 : 0 ≤ kids o := h0
                             omega, by rcases kids_cases o with e | e | e | e | e <;> omega, fun k hk => (h1 k hk).1, fun k hk => by rw [h2 k hk]; omega⟩
theorem sneed_end (w : World) (bx : Obj) (o a b c k : Int) (m : Nat) (hp : o ≠ 21) (hk : kids o = (m : Int)) (T : TypeId) (w2 : World) (hi : Ints w2 (.slice (some ⟨w.heap.size + 1, 0, none⟩) m 3) ([a, b, c].take m)) (hkp : Kp (fun i => i = w.heap.size + 1) ((w.alloc bx).alloc (.cells #[.int .i64 a, .int .i64 b, .int .i64 c] T)) w2) :
    NeedPost w ⟨o, a, b, c, k⟩ (.returned (.slice (some ⟨w.heap.size + 1, 0, none⟩) m 3)) w2 :=
  ⟨_, rfl, by rw [need_take (x := ⟨o, a, b, c, k⟩) hp hk]; exact hi, (below2 w bx _).trans (hkp.below (by simp; omega) (fun i _ e => by rw [e]; omega)), fun g o' n' c' e => by simp only [Value.slice.injEq, Option.some.injEq, Addr.mk.injEq] at e; omega⟩
set_option maxHeartbeats 1600000 in
theorem sneeds_any (w : World) (x : Op5) (n nin : Nat) (h : mayOp n nin x = true) : Calls Try.prog 55 #[opV x] w (NeedPost w x) := by
  obtain ⟨o, a, b, c, k⟩ := x
  unfold opV
  by_cases hp : o = 21
  · subst hp
    have HE := Lib.hid (need_end0 w)
    clear h
    go_enter Try.func55, Try.ntmps55
    go_wp2
    go_ret
    exact HE.out _ _ _ _ _ (below_new _ _)
  · obtain ⟨m, hk, hm3, hP, hQ⟩ := flds_split h
    have hbx := heap_alloc_new (w.alloc (.cells #[.int .i64 o, .int .i64 a, .int .i64 b, .int .i64 c, .int .i64 k] 79)) (.cells #[.int .i64 a, .int .i64 b, .int .i64 c] 3)
    have hs : (w.alloc (.cells #[.int .i64 o, .int .i64 a, .int .i64 b, .int .i64 c, .int .i64 k] 79)).heap.size = w.heap.size + 1 := by simp
    rw [hs] at hbx
    have HD := Lib.hid (del_any _ (w.heap.size + 1) m 3 ([a, b, c].take m) ([a, b, c].drop m) hP hQ (by rw [List.length_take]; simp; omega) (by rw [List.take_append_drop]; rfl) (by omega) (by rw [List.take_append_drop]; exact hbx))
    have HE := Lib.hid (fun T w2 => sneed_end w (.cells #[.int .i64 o, .int .i64 a, .int .i64 b, .int .i64 c, .int .i64 k] 79) o a b c k m hp hk T w2)
    clear hk hP hQ hbx hs h
    go_enter Try.func55, Try.ntmps55
    go_wp2_with fail
    refine HD.out.mono ?_
    rintro e w2 ⟨rfl, hi, hkp⟩
    have H1 := Lib.hid hi
    have H2 := Lib.hid hkp
    clear hi hkp
    go_wp2
    go_ret
    exact HE.out _ _ H1.out H2.out
end Go.Proofs.Ytcphjehjdhgheaa.Nt
