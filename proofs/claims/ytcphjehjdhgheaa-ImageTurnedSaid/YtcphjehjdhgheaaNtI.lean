/- The search for a way round, by layer norm: it tells whether there is no order. Conditions: the net may be. -/
import Derived.Test.YtcphjehjdhgheaaNtG
namespace Go.Proofs.Ytcphjehjdhgheaa.Nt
open Go.ChangeShapes Go.WideShapes Go.ChangeAt Go.RowKit Go.Proofs.Ytcphjehjdhgheaa.Tr
set_option linter.unusedVariables false
set_option linter.unusedSimpArgs false

theorem ints_kp {A : Nat → Prop} {w w' : World} {v : Value} {l : List Int} (h : Ints w v l) (hk : Kp A w w') (hA : ∀ g o n c, v = .slice (some ⟨g, o, none⟩) n c → ¬ A g) : Ints w' v l := by
  obtain ⟨B, c, rfl, h1, h2, h3⟩ := h
  refine ⟨B, c, rfl, h1, h2, fun i x hi => ?_⟩
  obtain ⟨g, o, rfl, hg, hc⟩ := h3 i x hi
  refine ⟨g, o, rfl, Nat.lt_of_lt_of_le hg hk.size, ?_⟩
  have := hk.block g hg (hA g o _ c rfl)
  simp only [World.cell?] at hc ⊢
  rw [this]; exact hc
abbrev backV (b1 b2 b4 : Nat) : Value := .func (.func 125) #[] #[.pointer (some ⟨b2, 0, none⟩), .pointer (some ⟨b1, 0, none⟩), .pointer (some ⟨b4, 0, none⟩)]
/-- The search's memory: the states, and the closure with all that it holds. -/
structure DAt (w0 : World) (N : Net) (b1 b2 b4 sb n : Nat) (ov rv iv : Value) (w : World) (S : List Int) : Prop where
  ops : OpsR w0 ov N.ops
  old : Below w0.heap.size w0 w
  lo : w0.heap.size ≤ sb
  net : NetBox w b1 30 ov rv iv
  var : w.heap[b2]? = some (.cells #[.slice (some ⟨sb, 0, none⟩) n n] 23 (0, 0))
  fn : w.heap[b4]? = some (.cells #[backV b1 b2 b4] 94 (0, 0))
  row : w.heap[sb]? = some (.cells (intsOf S).toArray 3 (0, 0))
theorem DAt.turned {w0 w w' : World} {N : Net} {b1 b2 b4 sb n : Nat} {ov rv iv : Value} {S S' : List Int} (h : DAt w0 N b1 b2 b4 sb n ov rv iv w S) (hk : Kp (fun i => i = sb) w w') (hr : w'.heap[sb]? = some (.cells (intsOf S').toArray 3 (0, 0))) : DAt w0 N b1 b2 b4 sb n ov rv iv w' S' := by
  have n1 : b1 ≠ sb := fun e => by have h1 := h.net.cell; rw [e, h.row] at h1; simp at h1
  have n2 : b2 ≠ sb := fun e => by have h1 := h.var; rw [e, h.row] at h1; simp at h1
  have n4 : b4 ≠ sb := fun e => by have h1 := h.fn; rw [e, h.row] at h1; simp at h1
  exact ⟨h.ops, h.old.trans (hk.below h.old.size (fun i _ e => by rw [e]; exact h.lo)), h.lo, ⟨(hk.block b1 h.net.lt n1).trans h.net.cell⟩, (hk.block b2 (lt_of_block h.var) n2).trans h.var, (hk.block b4 (lt_of_block h.fn) n4).trans h.fn, hr⟩
theorem DAt.below {w0 w w' : World} {N : Net} {b1 b2 b4 sb n : Nat} {ov rv iv : Value} {S : List Int} (h : DAt w0 N b1 b2 b4 sb n ov rv iv w S) (hb : Below w.heap.size w w') : DAt w0 N b1 b2 b4 sb n ov rv iv w' S :=
  h.turned ((Kp.of_below hb).wide (fun _ _ e => e.elim)) ((hb.block sb (lt_of_block h.row)).trans h.row)
theorem DAt.stored {w0 w : World} {N : Net} {b1 b2 b4 sb n : Nat} {ov rv iv : Value} {S : List Int} (h : DAt w0 N b1 b2 b4 sb n ov rv iv w S) (i : Nat) (x : Int) : DAt w0 N b1 b2 b4 sb n ov rv iv (w.setCell ⟨sb, i, none⟩ (.int .i64 x)) (S.set i x) :=
  h.turned ((Kp.refl (fun i => i = sb) w).setCell (p := ⟨sb, i, none⟩) rfl _) (by
    rw [intsOf_set]
    simp [World.setCell, Array.getElem?_modify, h.row])
theorem DAt.cellS {w0 w : World} {N : Net} {b1 b2 b4 sb n : Nat} {ov rv iv : Value} {S : List Int} (h : DAt w0 N b1 b2 b4 sb n ov rv iv w S) {i : Nat} {x : Int} (hx : S[i]? = some x) : w.cell? ⟨sb, i, none⟩ = some (.int .i64 x) ∧ w.frozen? ⟨sb, i, none⟩ = false := by
  have := intsOf_get S i x hx
  have hr := h.row
  constructor <;> simp [World.cell?, World.frozen?, hr, this]
theorem DAt.cells {w0 w : World} {N : Net} {b1 b2 b4 sb n : Nat} {ov rv iv : Value} {S : List Int} (h : DAt w0 N b1 b2 b4 sb n ov rv iv w S) : w.cell? ⟨b1, 0, none⟩ = some ov ∧ w.cell? ⟨b2, 0, none⟩ = some (.slice (some ⟨sb, 0, none⟩) n n) ∧ w.cell? ⟨b4, 0, none⟩ = some (backV b1 b2 b4) := by
  have h2 := h.var
  have h4 := h.fn
  exact ⟨h.net.ats.1, by simp [World.cell?, h2], by simp [World.cell?, h4]⟩
theorem kp_b {w w' : World} (sb : Nat) (h : Below w.heap.size w w') : Kp (fun k => k = sb) w w' := (Kp.of_below h).wide (fun _ _ e => e.elim)
theorem eRound1 : ∀ args w, (callFunc 125 args).run Try.prog w = .ok (.enter 125 args) w := by intro a w; kernel_rfl
def BackPost (w0 : World) (N : Net) (b1 b2 b4 sb n : Nat) (ov rv iv : Value) (w : World) (S : List Int) (P t : List Nat) (i : Nat) (e : Ending) (w' : World) : Prop :=
  Kp (fun k => k = sb) w w' ∧ ((e = .returned (.bool true) ∧ okG (grN N) = false) ∨
    (e = .returned (.bool false) ∧ ∃ S' t', DAt w0 N b1 b2 b4 sb n ov rv iv w' S' ∧ Dfs (grN N) S' P t' ∧ i ∈ t' ∧ (∀ j ∈ t, j ∈ t') ∧ unseen S' ≤ unseen S))
/-- What one needs is asked one by one. -/
theorem search_any (w0 : World) (N : Net) (hm : mayN N = true) (b1 b2 b4 sb n : Nat) (ov rv iv : Value) (hn : N.ops.length = n) (f : Nat)
    (ih : ∀ (i : Nat) (S : List Int) (P t : List Nat) (w : World), i < n → DAt w0 N b1 b2 b4 sb n ov rv iv w S → Dfs (grN N) S P t → (∀ p Q, P = p :: Q → i ∈ ndN N p) → unseen S ≤ f →
      Calls Try.prog 125 #[.int .i64 (i : Int), .pointer (some ⟨b2, 0, none⟩), .pointer (some ⟨b1, 0, none⟩), .pointer (some ⟨b4, 0, none⟩)] w (BackPost w0 N b1 b2 b4 sb n ov rv iv w S P t i))
    (i : Nat) (hi : i < n) (S : List Int) (P t : List Nat) (w : World) (hd : DAt w0 N b1 b2 b4 sb n ov rv iv w S) (hdf : Dfs (grN N) S (i :: P) t) (hu : unseen S ≤ f) (W : World) (v : Value) (hb : Below w.heap.size w W) (hv : Ints W v (needI (opAt N i)))
    (hnew : ∀ g o n c, v = .slice (some ⟨g, o, none⟩) n c → w.heap.size ≤ g) :
    Calls Try.prog 54 #[v, backV b1 b2 b4] W (fun e w3 => ∃ b, e = .returned (.bool b) ∧ Kp (fun k => k = sb) W w3 ∧ (b = true → okG (grN N) = false) ∧
      (b = false → ∃ S3 t3, DAt w0 N b1 b2 b4 sb n ov rv iv w3 S3 ∧ Dfs (grN N) S3 (i :: P) t3 ∧ (∀ j ∈ ndN N i, j ∈ t3) ∧ (∀ j ∈ t, j ∈ t3) ∧ unseen S3 ≤ unseen S)) := by
  obtain ⟨A, c, rfl, h1, h2⟩ := ints_form hv
  have hsb := lt_of_block hd.row
  have hcast := nd_cast hm (i := i) (by omega)
  have hndl : (needI (opAt N i)).length = (ndN N i).length := by rw [← hcast, List.length_map]
  refine (cont_any 125 _ eRound1 A _ c (needI (opAt N i)) W
    (fun j W' => Kp (fun k => k = sb) W W' ∧ ∃ S' t', DAt w0 N b1 b2 b4 sb n ov rv iv W' S' ∧ Dfs (grN N) S' (i :: P) t' ∧ (∀ m k, m < j → (ndN N i)[m]? = some k → k ∈ t') ∧ (∀ j ∈ t, j ∈ t') ∧ unseen S' ≤ unseen S)
    (fun j W' => Kp (fun k => k = sb) W W' ∧ okG (grN N) = false) rfl (by omega) ?_ ?_ ⟨Kp.refl _ _, S, t, hd.below hb, hdf, fun m k h => by omega, fun j h => h, Nat.le_refl _⟩).mono ?_
  · rintro j W' ⟨hk, -⟩
    exact ints_kp hv hk (fun g o n c e he => by have := hnew g o n c e; omega)
  · rintro j x W' hx ⟨hk, S', t', hd', hdf', hall, hsub, hu'⟩
    rw [← hcast, List.getElem?_map] at hx
    obtain ⟨k, hk2, rfl⟩ := Option.map_eq_some_iff.1 hx
    have hkl : k < n := by rw [← hn]; exact nd_lt hm i (by show i < N.ops.length; omega) k (List.mem_of_getElem? hk2)
    refine (ih k S' (i :: P) t' W' hkl hd' hdf' (fun p Q e => by injection e with e1 e2; subst e1; exact List.mem_of_getElem? hk2) (by omega)).mono ?_
    rintro e w' ⟨hkw, ⟨rfl, ho⟩ | ⟨rfl, S'', t'', a1, a2, a3, a4, a5⟩⟩
    · exact .inl ⟨rfl, hk.trans hkw, ho⟩
    · refine .inr ⟨rfl, hk.trans hkw, S'', t'', a1, a2, fun m k' hm' hk' => ?_, fun j h => a4 j (hsub j h), by omega⟩
      by_cases e : m = j
      · subst e
        rw [hk2] at hk'; injection hk' with hk'; subst hk'; exact a3
      · exact a4 _ (hall m k' (by omega) hk')
  · rintro e w' (⟨rfl, j, hj, hk, ho⟩ | ⟨rfl, hk, S', t', a1, a2, a3, a4, a5⟩)
    · exact ⟨true, rfl, hk, (fun _ => ho), (fun h => by cases h)⟩
    · refine ⟨false, rfl, hk, (fun h => by cases h), fun _ => ⟨S', t', a1, a2, fun j hj => ?_, a4, a5⟩⟩
      obtain ⟨m, hm', e⟩ := List.mem_iff_getElem.1 hj
      exact a3 m j (by omega) (by rw [List.getElem?_eq_getElem hm', e])
set_option maxRecDepth 100000 in
set_option maxHeartbeats 4000000 in
theorem back_seen (w0 : World) (N : Net) (b1 b2 b4 sb n : Nat) (ov rv iv : Value) (hn : N.ops.length = n) (i : Nat) (S : List Int) (P t : List Nat) (w : World) (hi : i < n) (hd : DAt w0 N b1 b2 b4 sb n ov rv iv w S) (hdf : Dfs (grN N) S P t)
    (hp : ∀ p Q, P = p :: Q → i ∈ ndN N p) (h0 : S[i]? ≠ some 0) : Calls Try.prog 125 #[.int .i64 (i : Int), .pointer (some ⟨b2, 0, none⟩), .pointer (some ⟨b1, 0, none⟩), .pointer (some ⟨b4, 0, none⟩)] w (BackPost w0 N b1 b2 b4 sb n ov rv iv w S P t i) := by
  have hSl : i < S.length := by rw [hdf.len]; show i < N.ops.length; omega
  obtain ⟨x, hx⟩ : ∃ x, S[i]? = some x := ⟨_, List.getElem?_eq_getElem hSl⟩
  obtain ⟨c1, c2, c3⟩ := hd.cells
  obtain ⟨c4, c5⟩ := hd.cellS hx
  obtain ⟨A, ca, rfl, z1, z2⟩ := hd.ops.form
  rw [hn] at c1 z1
  unfold maxLen at z2
  have HD := Lib.hid hd
  have HDF := Lib.hid hdf
  have HP := Lib.hid hp
  have HX := Lib.hid hx
  have hk := hdf.kind i x hx
  clear hd hdf hp hn
  rcases hk with ⟨rfl, h1, h2⟩ | ⟨rfl, h1⟩ | ⟨rfl, h1⟩
  · exact absurd hx h0
  · have HO : Hid (okG (grN N) = false) := Lib.hid (by
      cases P with
      | nil => simp at h1
      | cons p Q => exact HDF.out.round (HP.out p Q rfl) HX.out)
    clear hx h0
    go_enter Try.func125, Try.ntmps125
    go_wp2
    go_ret
    exact ⟨Kp.refl _ _, .inl ⟨rfl, HO.out⟩⟩
  · clear hx h0
    go_enter Try.func125, Try.ntmps125
    go_wp2
    go_ret
    exact ⟨Kp.refl _ _, .inr ⟨rfl, S, t, HD.out, HDF.out, h1, fun j h => h, Nat.le_refl _⟩⟩
set_option maxRecDepth 100000 in
set_option maxHeartbeats 4000000 in
theorem back_any (w0 : World) (N : Net) (hm : mayN N = true) (b1 b2 b4 sb n : Nat) (ov rv iv : Value) (hn : N.ops.length = n) : ∀ (f i : Nat) (S : List Int) (P t : List Nat) (w : World), i < n → DAt w0 N b1 b2 b4 sb n ov rv iv w S → Dfs (grN N) S P t →
    (∀ p Q, P = p :: Q → i ∈ ndN N p) → unseen S ≤ f → Calls Try.prog 125 #[.int .i64 (i : Int), .pointer (some ⟨b2, 0, none⟩), .pointer (some ⟨b1, 0, none⟩), .pointer (some ⟨b4, 0, none⟩)] w (BackPost w0 N b1 b2 b4 sb n ov rv iv w S P t i) := by
  intro f
  induction f with
  | zero =>
    intro i S P t w hi hd hdf hp hu
    exact back_seen w0 N b1 b2 b4 sb n ov rv iv hn i S P t w hi hd hdf hp (fun h0 => by have := unseen_open h0; omega)
  | succ f ih =>
    intro i S P t w hi hd hdf hp hu
    by_cases h0 : S[i]? = some 0
    case neg => exact back_seen w0 N b1 b2 b4 sb n ov rv iv hn i S P t w hi hd hdf hp h0
    obtain ⟨c1, c2, c3⟩ := hd.cells
    obtain ⟨c4, c5⟩ := hd.cellS h0
    have hd1 := hd.stored i 1
    have hdf1 := hdf.opened h0 hp
    have hu1 := unseen_open h0
    obtain ⟨w1, hw1⟩ : ∃ W, w.setCell ⟨sb, i, none⟩ (.int .i64 1) = W := ⟨_, rfl⟩
    have HW1 := Lib.hid hw1
    have HK1 : Hid (Kp (fun k => k = sb) w w1) := Lib.hid (by rw [← hw1]; exact (Kp.refl (fun k => k = sb) w).setCell (p := ⟨sb, i, none⟩) rfl _)
    rw [hw1] at hd1
    obtain ⟨k1, k2, k3⟩ := hd1.cells
    have hx := op_get (N := N) (i := i) (by omega)
    obtain ⟨A, ca, rfl, z1, z2⟩ := hd1.ops.form
    obtain ⟨g, o, rfl, hg0, a0, a1, a2, a3, a4⟩ := hd1.ops.at hx
    have hq0 := fun k => hd1.old.cell (p := ⟨g, k, none⟩) hg0
    have d0 := (hq0 _).trans a0
    have d1 := (hq0 _).trans a1
    have d2 := (hq0 _).trans a2
    have d3 := (hq0 _).trans a3
    have d4 := (hq0 _).trans a4
    have hgs : g ≠ sb := by have := hd1.lo; omega
    have hg : g < w1.heap.size := by have := hd1.old.size; omega
    clear hq0 a0 a1 a2 a3 a4
    rw [hn] at c1 k1 z1
    unfold maxLen at z2
    have hkid : 0 ≤ kids (opAt N i).op := (may_flds (may_at hm (i := i) (by omega))).1
    have HNE : Hid (∀ W, Below w1.heap.size w1 W → Calls Try.prog 126 #[opV (opAt N i)] W (fun e w2 => ∃ v, e = .returned v ∧ Ints w2 v (needI (opAt N i)) ∧ Below w1.heap.size w1 w2 ∧ ∀ g o n c, v = .slice (some ⟨g, o, none⟩) n c → w1.heap.size ≤ g)) := Lib.hid (fun W hW => by
      refine (nneeds_any W (opAt N i) hkid).mono ?_
      rintro e w2 ⟨v, rfl, hv, hb, hnew⟩
      exact ⟨v, rfl, hv, hW.trans (hb.mono hW.size), fun g o n c e => by have := hnew g o n c e; have := hW.size; omega⟩)
    have HCO := Lib.hid (search_any w0 N hm b1 b2 b4 sb n _ rv iv hn f ih i hi (S.set i 1) P t w1 hd1 hdf1 (by omega))
    have HD1 := Lib.hid hd1
    have HDF1 := Lib.hid hdf1
    have HKC : Hid (∀ W, Kp (fun k => k = sb) w1 W → W.cell? ⟨b1, 0, none⟩ = some (.slice (some ⟨g, o, none⟩) n ca) ∧ W.cell? ⟨g, o + i * 5, none⟩ = some (.int .i64 (opAt N i).op) ∧ W.cell? ⟨g, o + i * 5 + 1, none⟩ = some (.int .i64 (opAt N i).a) ∧ W.cell? ⟨g, o + i * 5 + 2, none⟩ = some (.int .i64 (opAt N i).b) ∧
        W.cell? ⟨g, o + i * 5 + 3, none⟩ = some (.int .i64 (opAt N i).c) ∧ W.cell? ⟨g, o + i * 5 + 4, none⟩ = some (.int .i64 (opAt N i).n) ∧ W.cell? ⟨b4, 0, none⟩ = some (backV b1 b2 b4)) := Lib.hid (fun W hW => by
      have q : ∀ k, W.cell? ⟨g, k, none⟩ = w1.cell? ⟨g, k, none⟩ := fun k => by
        have := hW.block g hg hgs
        simp only [World.cell?]; rw [this]
      have n1 : b1 ≠ sb := fun e => by have h1 := hd1.net.cell; rw [e, hd1.row] at h1; simp at h1
      have n4 : b4 ≠ sb := fun e => by have h1 := hd1.fn; rw [e, hd1.row] at h1; simp at h1
      have e1 : W.cell? ⟨b1, 0, none⟩ = w1.cell? ⟨b1, 0, none⟩ := by
        have := hW.block b1 hd1.net.lt n1
        simp only [World.cell?]; rw [this]
      have e3 : W.cell? ⟨b4, 0, none⟩ = w1.cell? ⟨b4, 0, none⟩ := by
        have := hW.block b4 (lt_of_block hd1.fn) n4
        simp only [World.cell?]; rw [this]
      exact ⟨e1.trans k1, (q _).trans d0, (q _).trans d1, (q _).trans d2, (q _).trans d3, (q _).trans d4, e3.trans k3⟩)
    have HU : Hid (unseen (S.set i 1) ≤ unseen S) := Lib.hid (by omega)
    obtain ⟨x, hxx⟩ : ∃ x, opAt N i = x := ⟨_, rfl⟩
    rw [hxx] at d0 d1 d2 d3 d4 HNE HCO HKC
    obtain ⟨xo, xa, xb, xc, xn⟩ := x
    unfold opV at HNE
    dsimp only at d0 d1 d2 d3 d4 HNE HKC
    clear hd hdf hp hu h0 hd1 hdf1 hu1 hw1 hx hn hkid ih hxx hm
    go_enter Try.func125, Try.ntmps125
    go_wp2_with fail
    rw [HW1.out]
    go_wp2_with fail
    go_region_held3 (fun W => W.cell? ⟨b1, 0, none⟩ = some (.slice (some ⟨g, o, none⟩) n ca) ∧ W.cell? ⟨g, o + i * 5, none⟩ = some (.int .i64 xo) ∧ W.cell? ⟨g, o + i * 5 + 1, none⟩ = some (.int .i64 xa) ∧ W.cell? ⟨g, o + i * 5 + 2, none⟩ = some (.int .i64 xb) ∧
        W.cell? ⟨g, o + i * 5 + 3, none⟩ = some (.int .i64 xc) ∧ W.cell? ⟨g, o + i * 5 + 4, none⟩ = some (.int .i64 xn) ∧ W.cell? ⟨b4, 0, none⟩ = some (backV b1 b2 b4))
      (first | exact HKC.out _ (kp_b sb HB2.out) | exact HKC.out _ (Kp.refl _ _) | exact HKC.out _ HK3.out | (go_keep; done))
      (first
        | (go_at_call 126; with_reducible refine (HNE.out _ (by first | with_reducible exact Below.refl _ _ | with_reducible exact below_drewN (Below.refl _ _) _ | with_reducible exact Below.drew (Below.refl _ _))).mono ?_; rintro r w2 ⟨v, rfl, hi2, hb2, hn2⟩; have HB2 := Lib.hid hb2; have HI2 := Lib.hid hi2; have HN2 := Lib.hid hn2; obtain ⟨A2, c2, rfl, z3, z4⟩ := ints_form hi2; clear hb2 hi2 hn2)
        | (go_at_call 54; with_reducible refine (HCO.out _ _ HB2.out HI2.out HN2.out).mono ?_; rintro r w3 ⟨b, rfl, hk3, ht3, hf3⟩; have HK3 := Lib.hid ((kp_b sb HB2.out).trans hk3); have HT3 := Lib.hid ht3; have HF3 := Lib.hid hf3; clear hk3 ht3 hf3))
    all_goals
      cases b with
      | true =>
        have HO := Lib.hid (HT3.out rfl)
        go_wp2
        go_ret
        exact ⟨HK1.out.trans HK3.out, .inl ⟨rfl, HO.out⟩⟩
      | false =>
        obtain ⟨S3, t3, hd3, hdf3, hall3, hsub3, hu3⟩ := HF3.out rfl
        have hi3 := hdf3.open' i (by simp)
        obtain ⟨c2, -, -⟩ : _ ∧ _ ∧ _ := ⟨hd3.cells.2.1, trivial, trivial⟩
        obtain ⟨c4, c5⟩ := hd3.cellS hi3
        have HE : Hid (BackPost w0 N b1 b2 b4 sb n (.slice (some ⟨g, o, none⟩) N.ops.length ca) rv iv w S P t i (.returned (.bool false)) (w3.setCell ⟨sb, i, none⟩ (.int .i64 2))) := Lib.hid
          ⟨(HK1.out.trans HK3.out).setCell (A := fun k => k = sb) (p := ⟨sb, i, none⟩) rfl _, .inr ⟨rfl, S3.set i 2, t3 ++ [i], hd3.stored i 2, hdf3.closed hall3, by simp, fun j h => List.mem_append_left _ (hsub3 j h), by rw [unseen_done hi3]; exact Nat.le_trans hu3 HU.out⟩⟩
        clear hd3 hdf3 hall3 hsub3 hu3 hi3
        go_wp2
        go_ret
        exact HE.out
end Go.Proofs.Ytcphjehjdhgheaa.Nt
