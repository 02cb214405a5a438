/- A draft is begun; the closures that choose: what they work on. Conditions: none. -/
import Derived.Test.YtfohjlepknnleaaBdJ
import Derived.Test.YtfohjlepknnleaaBdP
import Derived.Laws.EntriesVeiled
namespace Go.Proofs.Ytfohjlepknnleaa.Bd
open Go.ChangeShapes Go.WideShapes Go.ChangeAt Go.RowKit
set_option linter.unusedVariables false
set_option linter.unusedSimpArgs false

theorem tells_none (sh : Nat) : Tells 0 sh [] (fun _ => none) := ⟨fun n _ i _ h => by simp at h, fun n v h => by cases h⟩

set_option maxRecDepth 100000 in
set_option maxHeartbeats 1600000 in
/-- A new draft. -/
theorem draft_any (B : Nat) (w : World) (b vars budget : Nat) (nv : Value) (pb : Nat) (S : List Nd) (h : StV B w b vars budget nv pb S) :
    Calls Try.prog 34 #[.pointer (some ⟨b, 0, none⟩)] w (fun e w' => Below w.heap.size w w' ∧ ∃ P : Dp, P.W0 = w ∧ P.B = B ∧ P.b = b ∧ P.vars = vars ∧ P.budget = budget ∧ P.nv = nv ∧ P.pb = pb ∧ P.S = S ∧ P.limit = budget ∧
      e = .returned (.pointer (some ⟨P.dd, 0, none⟩)) ∧ Dr P w' (.slice none 0 0) []) := by
  have hmm := @run_makeMap Try.prog
  obtain ⟨w1, hw1⟩ : ∃ W, w.alloc (.map #[] 0) = W := ⟨_, rfl⟩
  obtain ⟨w2, hw2⟩ : ∃ W, w1.alloc (.cells #[.pointer (some ⟨b, 0, none⟩), .slice none 0 0, .map (some w.heap.size), .int .i64 (budget : Int)] 86) = W := ⟨_, rfl⟩
  have e1 : w1.heap.size = w.heap.size + 1 := by rw [← hw1]; simp
  have hb1 : Below w.heap.size w w1 := by rw [← hw1]; exact below_new _ _
  have hb2 : Below w1.heap.size w1 w2 := by rw [← hw2]; exact below_new _ _
  have hB : Below w.heap.size w w2 := hb1.trans (hb2.mono hb1.size)
  have hm1 : MapK Try.prog 59 okN litN w1 w.heap.size 0 (fun _ => none) := by rw [← hw1]; exact MapK.made w
  have hbx : w2.heap[w1.heap.size]? = some (.cells #[.pointer (some ⟨b, 0, none⟩), .slice none 0 0, .map (some w.heap.size), .int .i64 (budget : Int)] 86 (0, 0)) := by rw [← hw2]; exact heap_alloc_new _ _
  have hD : Dr ⟨w, B, b, vars, budget, nv, pb, S, w1.heap.size, w.heap.size, budget⟩ w2 (.slice none 0 0) [] :=
    ⟨h, hB, hbx, World.ownsRow_nil _ _ _ _, ⟨_, hm1.below hb2 hm1.lt, tells_none _⟩, by rw [List.append_nil]; exact h.good, by show w.heap.size ≤ w1.heap.size; omega, Nat.le_refl _, by have := h.hlen; have := h.hbud; simp; omega, by have := h.hbud; show budget ≤ _; omega⟩
  obtain ⟨y0, y1, y2, y3⟩ := (h.box.below hb1 h.box.lt).ats
  have HD := Lib.hid hD
  have HB := Lib.hid hB
  clear hD hB hbx hm1 hb1 hb2 h
  go_enter Try.func34, Try.ntmps34
  go_wp2_with fail
  refine bodyPost_ret (v := .pointer (some ⟨w1.heap.size, 0, none⟩)) (by simp [results, Try.results34, go_sem]) rfl ⟨HB.out, _, rfl, rfl, rfl, rfl, rfl, rfl, rfl, rfl, rfl, rfl, HD.out⟩

/-- The first variable that three functions test. -/
def mn (ns : List Nd) (a b c : Nat) : Nat := min (tst ns a) (min (tst ns b) (tst ns c))
/-- An answer that is remembered. -/
structure IteV (vars : Nat) (ns : List Nd) (a b c x : Nat) : Prop where
  la : a < ns.length
  lb : b < ns.length
  lc : c < ns.length
  tox : IteTo vars ns a b c (mn ns a b c) ns x
theorem mn_app {vars : Nat} {ns m : List Nd} {a b c : Nat} (la : a < ns.length) (lb : b < ns.length) (lc : c < ns.length) : mn (ns ++ m) a b c = mn ns a b c := by
  unfold mn; rw [tst_app la, tst_app lb, tst_app lc]
theorem IteV.app {vars : Nat} {ns m : List Nd} {a b c x : Nat} (h : IteV vars ns a b c x) (G : Good vars (ns ++ m)) : IteV vars (ns ++ m) a b c x := by
  have g := h.tox.good
  have lx := h.tox.lt
  have hl : ns.length ≤ (ns ++ m).length := by rw [List.length_append]; omega
  refine ⟨Nat.lt_of_lt_of_le h.la hl, Nat.lt_of_lt_of_le h.lb hl, Nat.lt_of_lt_of_le h.lc hl, ⟨⟨[], (List.append_nil _).symm⟩, G, Nat.lt_of_lt_of_le lx hl, fun r => ?_, ?_⟩⟩
  · rw [den_app g r lx, den_app g r h.la, den_app g r h.lb, den_app g r h.lc]; exact h.tox.val r
  · rw [mn_app (vars := vars) h.la h.lb h.lc, tst_app lx]; exact h.tox.ge

/-- The closures that choose, in memory from block E on; what they remember is right, if ok. -/
structure Ch (P : Dp) (E : Nat) (ns : List Nd) (ok : Prop) (w : World) : Prop where
  c0 : w.heap[E]? = some (.cells #[.pointer (some ⟨P.dd, 0, none⟩)] 73 (0, 0))
  c1 : w.heap[E + 1]? = some (.cells #[.func (.func 58) #[] #[.pointer (some ⟨E + 5, 0, none⟩), .pointer (some ⟨E + 3, 0, none⟩)]] 90 (0, 0))
  c2 : w.heap[E + 2]? = some (.cells #[.func (.func 47) #[] #[.pointer (some ⟨E + 1, 0, none⟩)]] 76 (0, 0))
  c3 : w.heap[E + 3]? = some (.cells #[.func (.func 49) #[] #[.pointer (some ⟨E, 0, none⟩), .pointer (some ⟨E + 2, 0, none⟩)]] 90 (0, 0))
  c5 : w.heap[E + 5]? = some (.cells #[.map (some (E + 4))] 104 (0, 0))
  c4 : ∃ n f, MapK Try.prog 91 okN litN w (E + 4) n f ∧ n ≤ 1048576 ∧ (ok → ∀ a b c v, f (a, b, c) = some v → ∃ x : Nat, v = .int .i64 (x : Int) ∧ IteV P.vars ns a b c x)
  hE : P.W0.heap.size ≤ E
  hk : P.kb < E
theorem Ch.ats {P : Dp} {E : Nat} {ns : List Nd} {ok : Prop} {w : World} (h : Ch P E ns ok w) :
    w.cell? ⟨E, 0, none⟩ = some (.pointer (some ⟨P.dd, 0, none⟩)) ∧ w.cell? ⟨E + 1, 0, none⟩ = some (.func (.func 58) #[] #[.pointer (some ⟨E + 5, 0, none⟩), .pointer (some ⟨E + 3, 0, none⟩)]) ∧
    w.cell? ⟨E + 2, 0, none⟩ = some (.func (.func 47) #[] #[.pointer (some ⟨E + 1, 0, none⟩)]) ∧ w.cell? ⟨E + 3, 0, none⟩ = some (.func (.func 49) #[] #[.pointer (some ⟨E, 0, none⟩), .pointer (some ⟨E + 2, 0, none⟩)]) ∧
    w.cell? ⟨E + 5, 0, none⟩ = some (.map (some (E + 4))) := by
  have h0 := h.c0; have h1 := h.c1; have h2 := h.c2; have h3 := h.c3; have h5 := h.c5
  exact ⟨by simp [World.cell?, h0], by simp [World.cell?, h1], by simp [World.cell?, h2], by simp [World.cell?, h3], by simp [World.cell?, h5]⟩
theorem Ch.kept {P : Dp} {E : Nat} {ns : List Nd} {ok : Prop} {w w' : World} (h : Ch P E ns ok w) (hb : Below w.heap.size w w') : Ch P E ns ok w' := by
  obtain ⟨n, f, h1, h2, h3⟩ := h.c4
  exact ⟨(hb.block _ (block_lt h.c0)).trans h.c0, (hb.block _ (block_lt h.c1)).trans h.c1, (hb.block _ (block_lt h.c2)).trans h.c2, (hb.block _ (block_lt h.c3)).trans h.c3, (hb.block _ (block_lt h.c5)).trans h.c5, ⟨n, f, h1.below hb h1.lt, h2, h3⟩, h.hE, h.hk⟩
theorem Ch.weak {P : Dp} {E : Nat} {ns : List Nd} {ok : Prop} {w : World} (h : Ch P E ns ok w) (ns' : List Nd) : Ch P E ns' False w := by
  obtain ⟨n, f, h1, h2, h3⟩ := h.c4
  exact ⟨h.c0, h.c1, h.c2, h.c3, h.c5, ⟨n, f, h1, h2, fun h => h.elim⟩, h.hE, h.hk⟩
theorem Ch.app {P : Dp} {E : Nat} {ns m : List Nd} {ok : Prop} {w : World} (h : Ch P E ns ok w) (G : Good P.vars (ns ++ m)) : Ch P E (ns ++ m) ok w := by
  obtain ⟨n, f, h1, h2, h3⟩ := h.c4
  exact ⟨h.c0, h.c1, h.c2, h.c3, h.c5, ⟨n, f, h1, h2, fun ho a b c v hv => by obtain ⟨x, a1, a2⟩ := h3 ho a b c v hv; exact ⟨x, a1, a2.app G⟩⟩, h.hE, h.hk⟩

set_option maxRecDepth 100000 in
set_option maxHeartbeats 1600000 in
/-- A function that remembers is made. -/
theorem remA_any (w : World) (fn : Nat) (cap : Array Value) (rk : Value) (hrk : rk = .func (.func fn) #[] cap) :
    Calls Try.prog 48 #[rk] w (fun e w' => Below w.heap.size w w' ∧ w'.heap.size = w.heap.size + 3 ∧ e = .returned (.func (.func 58) #[] #[.pointer (some ⟨w.heap.size + 2, 0, none⟩), .pointer (some ⟨w.heap.size, 0, none⟩)]) ∧
      w'.heap[w.heap.size]? = some (.cells #[rk] 90 (0, 0)) ∧ w'.heap[w.heap.size + 2]? = some (.cells #[.map (some (w.heap.size + 1))] 104 (0, 0)) ∧ MapK Try.prog 91 okN litN w' (w.heap.size + 1) 0 (fun _ => none)) := by
  have hmm := @run_makeMap Try.prog
  obtain ⟨w1, hw1⟩ : ∃ W, w.alloc (.cells #[rk] 90) = W := ⟨_, rfl⟩
  obtain ⟨w2, hw2⟩ : ∃ W, w1.alloc (.map #[] 0) = W := ⟨_, rfl⟩
  obtain ⟨w3, hw3⟩ : ∃ W, w2.alloc (.cells #[.map (some w1.heap.size)] 104) = W := ⟨_, rfl⟩
  obtain ⟨a1, -, -, b1, s1⟩ := one_new _ _ _ _ hw1
  have b2 : Below w1.heap.size w1 w2 := by rw [← hw2]; exact below_new _ _
  have s2 : w2.heap.size = w1.heap.size + 1 := by rw [← hw2]; simp
  have m2 : MapK Try.prog 91 okN litN w2 w1.heap.size 0 (fun _ => none) := by rw [← hw2]; exact MapK.made w1
  obtain ⟨a3, -, -, b3, s3⟩ := one_new _ _ _ _ hw3
  have HP : Hid (Below w.heap.size w w3 ∧ w3.heap.size = w.heap.size + 3 ∧ w3.heap[w.heap.size]? = some (.cells #[rk] 90 (0, 0)) ∧ w3.heap[w.heap.size + 2]? = some (.cells #[.map (some (w.heap.size + 1))] 104 (0, 0)) ∧ MapK Try.prog 91 okN litN w3 (w.heap.size + 1) 0 (fun _ => none)) := Lib.hid (by
    refine ⟨b1.trans ((b2.trans (b3.mono (by omega))).mono (by omega)), by omega, ?_, ?_, ?_⟩
    · rw [b3.block _ (by omega), b2.block _ (by omega)]; exact a1
    · rw [s2, s1] at a3; exact a3
    · have := m2.below b3 m2.lt
      rw [s1] at this; exact this)
  have HW : Hid (((w.alloc (.cells #[rk] 90)).alloc (.map #[] 0)).alloc (.cells #[.map (some (w.heap.size + 1))] 104) = w3) := Lib.hid (by rw [hw1, hw2, ← s1, hw3])
  clear hw1 hw2 hw3 a1 b1 s1 b2 s2 m2 a3 b3 s3
  subst hrk
  go_enter Try.func48, Try.ntmps48
  go_wp2_with fail
  rw [HW.out]
  obtain ⟨p1, p2, p3, p4, p5⟩ := HP.out
  refine bodyPost_ret (v := .func (.func 58) #[] #[.pointer (some ⟨w.heap.size + 2, 0, none⟩), .pointer (some ⟨w.heap.size, 0, none⟩)]) (by simp [results, Try.results48, go_sem]) rfl ⟨p1, p2, rfl, p3, p4, p5⟩

set_option maxRecDepth 100000 in
set_option maxHeartbeats 1600000 in
/-- The closures are made. -/
theorem chooser_any (P : Dp) (w : World) (fv : Value) (F : List Nd) (h : Dr P w fv F) :
    Calls Try.prog 37 #[.pointer (some ⟨P.dd, 0, none⟩)] w (fun e w' => Below w.heap.size w w' ∧ e = .returned (.func (.func 47) #[] #[.pointer (some ⟨w.heap.size + 1, 0, none⟩)]) ∧ Ch P w.heap.size (P.S ++ F) True w') := by
  have hsz : P.W0.heap.size ≤ w.heap.size ∧ P.kb < w.heap.size := ⟨h.below.size, by obtain ⟨f, h1, h2⟩ := h.known; exact h1.lt⟩
  obtain ⟨w1, hw1⟩ : ∃ W, w.alloc (.cells #[.pointer (some ⟨P.dd, 0, none⟩)] 73) = W := ⟨_, rfl⟩
  obtain ⟨w2, hw2⟩ : ∃ W, w1.alloc (.cells #[.nilFunc] 90) = W := ⟨_, rfl⟩
  obtain ⟨w2n, hw2n⟩ : ∃ W, w2.alloc (.cells #[.nilFunc] 76) = W := ⟨_, rfl⟩
  obtain ⟨w3, hw3⟩ : ∃ W, w2n.setCell ⟨w.heap.size + 1 + 1, 0, none⟩ (.func (.func 47) #[] #[.pointer (some ⟨w.heap.size + 1, 0, none⟩)]) = W := ⟨_, rfl⟩
  obtain ⟨a1, -, -, b1, s1⟩ := one_new _ _ _ _ hw1
  obtain ⟨a2, -, -, b2, s2⟩ := one_new _ _ _ _ hw2
  obtain ⟨a2n, x2n, y2n, b2n, s2n⟩ := one_new _ _ _ _ hw2n
  rw [s2, s1] at a2n x2n y2n
  rw [s1] at a2
  have a3 := one_set (u := .func (.func 47) #[] #[.pointer (some ⟨w.heap.size + 1, 0, none⟩)]) a2n
  rw [hw3] at a3
  have s3 : w3.heap.size = w.heap.size + 3 := by rw [← hw3]; simp [World.setCell]; omega
  have b3 : Below w2.heap.size w2 w3 := by rw [← hw3]; exact b2n.setCell (by show _ ≤ w.heap.size + 1 + 1; omega) _
  have HB3 : Hid (Below w.heap.size w w3) := Lib.hid (b1.trans ((b2.trans (b3.mono (by omega))).mono (by omega)))
  have hr := remA_any w3 49 #[.pointer (some ⟨w.heap.size, 0, none⟩), .pointer (some ⟨w.heap.size + 1 + 1, 0, none⟩)] _ rfl
  have HR := Lib.hid hr
  have h0 : w3.heap[w.heap.size]? = some (.cells #[.pointer (some ⟨P.dd, 0, none⟩)] 73 (0, 0)) := by rw [b3.block _ (by omega), b2.block _ (by omega)]; exact a1
  have h1 : w3.heap[w.heap.size + 1]? = some (.cells #[.nilFunc] 90 (0, 0)) := by rw [b3.block _ (by omega)]; exact a2
  have H0 := Lib.hid h0
  have H1 := Lib.hid h1
  have H2 := Lib.hid a3
  have S3 := Lib.hid s3
  have HSZ := Lib.hid hsz
  have HW3 := Lib.hid hw3
  rw [← hw2, ← hw1] at hw2n
  clear a1 b1 s1 a2 b2 s2 a2n b2n s2n a3 s3 b3 hr h0 h1 h hsz hw3 hw1 hw2
  go_enter Try.func37, Try.ntmps37
  go_wp2_with fail
  rw [HW3.out]
  go_wp2_with fail
  refine HR.out.mono ?_
  rintro e w4 ⟨hb4, hs4, rfl, k3, k5, m4⟩
  rw [S3.out] at hs4 k3 k5 m4 ⊢
  have HB4 := Lib.hid hb4
  have i1 : w4.heap[w.heap.size + 1]? = some (.cells #[.nilFunc] 90 (0, 0)) := (hb4.block _ (by rw [S3.out]; omega)).trans H1.out
  have i2 : w4.heap[w.heap.size + 1 + 1]? = some (.cells #[.func (.func 47) #[] #[.pointer (some ⟨w.heap.size + 1, 0, none⟩)]] 76 (0, 0)) := (hb4.block _ (by rw [S3.out]; omega)).trans H2.out
  have q1 : w4.cell? ⟨w.heap.size + 1, 0, none⟩ = some .nilFunc := by unfold World.cell?; rw [i1]; rfl
  have q1f : w4.frozen? ⟨w.heap.size + 1, 0, none⟩ = false := by unfold World.frozen?; rw [i1]; rfl
  have q2 : w4.cell? ⟨w.heap.size + 1 + 1, 0, none⟩ = some (.func (.func 47) #[] #[.pointer (some ⟨w.heap.size + 1, 0, none⟩)]) := by unfold World.cell?; rw [i2]; rfl
  have HE : Hid (Below w.heap.size w (w4.setCell ⟨w.heap.size + 1, 0, none⟩ (.func (.func 58) #[] #[.pointer (some ⟨w.heap.size + 5, 0, none⟩), .pointer (some ⟨w.heap.size + 3, 0, none⟩)])) ∧ Ch P w.heap.size (P.S ++ F) True (w4.setCell ⟨w.heap.size + 1, 0, none⟩ (.func (.func 58) #[] #[.pointer (some ⟨w.heap.size + 5, 0, none⟩), .pointer (some ⟨w.heap.size + 3, 0, none⟩)]))) := Lib.hid (by
    have hs3 := S3.out
    refine ⟨(HB3.out.trans (hb4.mono (by omega))).setCell (by show _ ≤ w.heap.size + 1; omega) _, ⟨?_, one_set i1, ?_, ?_, ?_, ⟨0, _, m4.keep (Below.heap_setCell _ _ _ _ (by show w.heap.size + 3 + 1 ≠ w.heap.size + 1; omega)), by omega, fun _ a b c v hv => by cases hv⟩, HSZ.out.1, HSZ.out.2⟩⟩
    · rw [Below.heap_setCell _ _ _ _ (by show _ ≠ w.heap.size + 1; omega), hb4.block _ (by omega)]; exact H0.out
    · rw [Below.heap_setCell _ _ _ _ (by show _ ≠ w.heap.size + 1; omega)]; exact i2
    · rw [Below.heap_setCell _ _ _ _ (by show _ ≠ w.heap.size + 1; omega)]; exact k3
    · rw [Below.heap_setCell _ _ _ _ (by show _ ≠ w.heap.size + 1; omega)]; exact k5)
  clear hb4 hs4 k3 k5 m4 i1 i2
  go_wp2_with fail
  rw [show w.heap.size + 3 + 2 = w.heap.size + 5 from by omega]
  refine bodyPost_ret (v := .func (.func 47) #[] #[.pointer (some ⟨w.heap.size + 1, 0, none⟩)]) (by simp [results, Try.results37, go_sem]) rfl ⟨HE.out.1, rfl, HE.out.2⟩
end Go.Proofs.Ytfohjlepknnleaa.Bd
