/- How often a function is true. Conditions: none. -/
import Derived.Test.YtfohjlepknnleaaBdNa
import Derived.Test.YtfohjlepknnleaaBdMa
import Derived.IntWalk
namespace Go.Proofs.Ytfohjlepknnleaa.Bd
open Go.ChangeShapes Go.WideShapes Go.ChangeAt Go.RowKit Go.IntWalk
set_option linter.unusedVariables false
set_option linter.unusedSimpArgs false

/-- What counting changes: what is remembered. -/
structure CtFr (E : Nat) (w w' : World) : Prop where
  size : w.heap.size ≤ w'.heap.size
  os : w'.os = w.os
  tape : w'.tape = w.tape
  output : w'.output = w.output
  keep : ∀ g, g < w.heap.size → g ≠ E + 4 → w'.heap[g]? = w.heap[g]?
theorem CtFr.refl (E : Nat) (w : World) : CtFr E w w := ⟨Nat.le_refl _, rfl, rfl, rfl, fun _ _ _ => rfl⟩
theorem CtFr.trans {E : Nat} {a b c : World} (h : CtFr E a b) (k : CtFr E b c) : CtFr E a c := ⟨Nat.le_trans h.size k.size, k.os.trans h.os, k.tape.trans h.tape, k.output.trans h.output, fun g hl hg => (k.keep g (Nat.lt_of_lt_of_le hl h.size) hg).trans (h.keep g hl hg)⟩
theorem CtFr.drew {E : Nat} {a b : World} (h : CtFr E a b) : CtFr E a b.drew := ⟨h.size, h.os, h.tape, h.output, h.keep⟩
/-- What counting works on, in memory. -/
structure CtAt (B b vars budget : Nat) (nv : Value) (pb : Nat) (S : List Nd) (E : Nat) (w : World) : Prop where
  st : StV B w b vars budget nv pb S
  c0 : w.heap[E]? = some (.cells #[.pointer (some ⟨b, 0, none⟩)] 24 (0, 0))
  c2 : w.heap[E + 2]? = some (.cells #[.func (.func 54) #[] #[.pointer (some ⟨E + 5, 0, none⟩), .pointer (some ⟨E + 3, 0, none⟩)]] 81 (0, 0))
  c3 : w.heap[E + 3]? = some (.cells #[.func (.func 43) #[] #[.pointer (some ⟨E, 0, none⟩), .pointer (some ⟨E + 2, 0, none⟩)]] 81 (0, 0))
  c5 : w.heap[E + 5]? = some (.cells #[.map (some (E + 4))] 98 (0, 0))
  c4 : ∃ n f, MapK Try.prog 3 okI litI w (E + 4) n f ∧ n ≤ 1048576 ∧ ∀ x v, f x = some v → v = .int .i64 (cntD vars S x : Nat)
  lt : b < E ∧ pb < E ∧ ∀ g, nv.ownBlock = some g → g < E
theorem CtAt.ats {B b vars budget : Nat} {nv : Value} {pb : Nat} {S : List Nd} {E : Nat} {w : World} (h : CtAt B b vars budget nv pb S E w) :
    w.cell? ⟨E, 0, none⟩ = some (.pointer (some ⟨b, 0, none⟩)) ∧ w.cell? ⟨E + 2, 0, none⟩ = some (.func (.func 54) #[] #[.pointer (some ⟨E + 5, 0, none⟩), .pointer (some ⟨E + 3, 0, none⟩)]) ∧
    w.cell? ⟨E + 3, 0, none⟩ = some (.func (.func 43) #[] #[.pointer (some ⟨E, 0, none⟩), .pointer (some ⟨E + 2, 0, none⟩)]) ∧ w.cell? ⟨E + 5, 0, none⟩ = some (.map (some (E + 4))) := by
  have h0 := h.c0; have h2 := h.c2; have h3 := h.c3; have h5 := h.c5
  refine ⟨?_, ?_, ?_, ?_⟩
  · unfold World.cell?; rw [h0]; rfl
  · unfold World.cell?; rw [h2]; rfl
  · unfold World.cell?; rw [h3]; rfl
  · unfold World.cell?; rw [h5]; rfl
/-- All but what is remembered lies on. -/
theorem CtAt.moved {B b vars budget : Nat} {nv : Value} {pb : Nat} {S : List Nd} {E : Nat} {w w' : World} (h : CtAt B b vars budget nv pb S E w) (hf : CtFr E w w') (h4 : ∃ n f, MapK Try.prog 3 okI litI w' (E + 4) n f ∧ n ≤ 1048576 ∧ ∀ x v, f x = some v → v = .int .i64 (cntD vars S x : Nat)) :
    CtAt B b vars budget nv pb S E w' := by
  obtain ⟨l1, l2, l3⟩ := h.lt
  have st := h.st
  obtain ⟨kf, km, kt⟩ := st.map
  have s5 := block_lt h.c5
  have kp : ∀ g, g < E + 4 → w'.heap[g]? = w.heap[g]? := fun g hg => hf.keep g (by omega) (by omega)
  refine ⟨⟨⟨(kp _ (by omega)).trans st.box.cell⟩, own_keep st.row (fun g hg => kp g (by have := l3 g hg; omega)), ⟨kf, km.keep (kp _ (by omega)), kt⟩, st.good, st.hb, st.hp, st.hv, st.hbud, st.hlen⟩,
    (kp _ (by omega)).trans h.c0, (kp _ (by omega)).trans h.c2, (kp _ (by omega)).trans h.c3, (hf.keep _ s5 (by omega)).trans h.c5, h4, h.lt⟩
theorem CtAt.drew {B b vars budget : Nat} {nv : Value} {pb : Nat} {S : List Nd} {E : Nat} {w : World} (h : CtAt B b vars budget nv pb S E w) : CtAt B b vars budget nv pb S E w.drew := by
  obtain ⟨n, f, a, b2, c⟩ := h.c4
  exact h.moved ⟨Nat.le_refl _, rfl, rfl, rfl, fun _ _ _ => rfl⟩ ⟨n, f, a.keep rfl, b2, c⟩

set_option maxRecDepth 100000 in
set_option maxHeartbeats 1600000 in
theorem count_low (B b vars budget : Nat) (nv : Value) (pb : Nat) (S : List Nd) (E : Nat) (w : World) (h : CtAt B b vars budget nv pb S E w) (f : Nat) (hf : f < 2) :
    Calls Try.prog 43 #[.int .i64 (f : Int), .pointer (some ⟨E, 0, none⟩), .pointer (some ⟨E + 2, 0, none⟩)] w (fun e w' => e = .returned (.int .i64 (cntD vars S f : Nat)) ∧ w' = w) := by
  have hv := h.st.hv
  obtain ⟨y0, y1, y2, y3⟩ := h.st.box.ats
  obtain ⟨c0, c2, c3, c5⟩ := h.ats
  have HC : Hid (cntD vars S f = f * 2 ^ vars) := Lib.hid (cntD_const vars S f hf)
  clear h
  have : f = 0 ∨ f = 1 := by omega
  rcases this with rfl | rfl
  · rw [Nat.zero_mul] at HC
    go_enter Try.func43, Try.ntmps43
    go_wp2_with fail
    refine bodyPost_ret (v := .int .i64 0) (by simp [results, Try.results43, go_sem]) rfl ⟨by rw [HC.out]; rfl, rfl⟩
  · rw [Nat.one_mul] at HC
    have hp : (2 : Nat) ^ vars ≤ 2 ^ 30 := Nat.pow_le_pow_right (by omega) hv
    have hw : wrap64 ((2 : Int) ^ vars) = ((2 ^ vars : Nat) : Int) := by
      have : ((2 : Int) ^ vars) = ((2 ^ vars : Nat) : Int) := by simp
      rw [this]
      have h0 : (0 : Int) ≤ ((2 ^ vars : Nat) : Int) := Int.natCast_nonneg _
      have h1 : ((2 ^ vars : Nat) : Int) ≤ ((2 ^ 30 : Nat) : Int) := Int.ofNat_le.mpr hp
      exact wrap64_in _ ⟨by omega, by omega⟩
    have HW := Lib.hid hw
    clear hw hp
    go_enter Try.func43, Try.ntmps43
    go_wp2_with fail
    rw [HW.out]
    refine bodyPost_ret (v := .int .i64 ((2 ^ vars : Nat) : Int)) (by simp [results, Try.results43, go_sem]) rfl ⟨by rw [HC.out], rfl⟩

set_option maxRecDepth 100000 in
set_option maxHeartbeats 1600000 in
theorem count_high (B b vars budget : Nat) (nv : Value) (pb : Nat) (S : List Nd) (E : Nat) (w : World) (h : CtAt B b vars budget nv pb S E w) (f t lo hi : Nat) (hf : 2 ≤ f) (hnd : S[f]? = some (t, lo, hi))
    (hdn : ∀ W g, g < f → CtAt B b vars budget nv pb S E W → Calls Try.prog 54 #[.int .i64 (g : Int), .pointer (some ⟨E + 5, 0, none⟩), .pointer (some ⟨E + 3, 0, none⟩)] W (fun e w' => e = .returned (.int .i64 (cntD vars S g : Nat)) ∧ CtAt B b vars budget nv pb S E w' ∧ CtFr E W w')) :
    Calls Try.prog 43 #[.int .i64 (f : Int), .pointer (some ⟨E, 0, none⟩), .pointer (some ⟨E + 2, 0, none⟩)] w (fun e w' => e = .returned (.int .i64 (cntD vars S f : Nat)) ∧ CtAt B b vars budget nv pb S E w' ∧ CtFr E w w') := by
  have hv := h.st.hv
  have hl := lt_of hnd
  have hlen := h.st.hlen
  have hbud := h.st.hbud
  obtain ⟨_, _, hlo, hhi, _, _⟩ := h.st.good.node f t lo hi hf hnd
  have HC : Hid (cntD vars S f = (cntD vars S lo + cntD vars S hi) / 2) := Lib.hid (cntD_node h.st.good hf hnd)
  obtain ⟨cl, hcl⟩ : ∃ c, cntD vars S lo = c := ⟨_, rfl⟩
  obtain ⟨ch, hch⟩ : ∃ c, cntD vars S hi = c := ⟨_, rfl⟩
  have hp : (2 : Nat) ^ vars ≤ 2 ^ 30 := Nat.pow_le_pow_right (by omega) hv
  have hcl2 : cl ≤ 2 ^ 30 := by rw [← hcl]; exact Nat.le_trans (cnt_le _ _ _ _) hp
  have hch2 : ch ≤ 2 ^ 30 := by rw [← hch]; exact Nat.le_trans (cnt_le _ _ _ _) hp
  have HLO : Hid (∀ W, CtAt B b vars budget nv pb S E W → Calls Try.prog 54 #[.int .i64 (lo : Int), .pointer (some ⟨E + 5, 0, none⟩), .pointer (some ⟨E + 3, 0, none⟩)] W (fun e w' => e = .returned (.int .i64 (cl : Int)) ∧ CtAt B b vars budget nv pb S E w' ∧ CtFr E W w')) := Lib.hid (fun W hW => by have := hdn W lo hlo hW; rw [hcl] at this; exact this)
  have HHI : Hid (∀ W, CtAt B b vars budget nv pb S E W → Calls Try.prog 54 #[.int .i64 (hi : Int), .pointer (some ⟨E + 5, 0, none⟩), .pointer (some ⟨E + 3, 0, none⟩)] W (fun e w' => e = .returned (.int .i64 (ch : Int)) ∧ CtAt B b vars budget nv pb S E w' ∧ CtFr E W w')) := Lib.hid (fun W hW => by have := hdn W hi hhi hW; rw [hch] at this; exact this)
  rw [hcl, hch] at HC
  obtain ⟨g, cap, hnv, -⟩ := row_at h.st.row hnd
  obtain ⟨n, hn⟩ : ∃ n, S.length = n := ⟨_, rfl⟩
  rw [hn] at hnv hl hlen
  have HX : Hid (∀ W, CtAt B b vars budget nv pb S E W → (W.cell? ⟨E, 0, none⟩ = some (.pointer (some ⟨b, 0, none⟩)) ∧ W.cell? ⟨E + 2, 0, none⟩ = some (.func (.func 54) #[] #[.pointer (some ⟨E + 5, 0, none⟩), .pointer (some ⟨E + 3, 0, none⟩)]) ∧ W.cell? ⟨b, 2, none⟩ = some (.slice (some ⟨g, 0, none⟩) n cap)) ∧ W.cell? ⟨g, f * 3 + 1, none⟩ = some (.int .i64 (lo : Int)) ∧ W.cell? ⟨g, f * 3 + 2, none⟩ = some (.int .i64 (hi : Int))) := Lib.hid (fun W hW => by
    obtain ⟨g', cap', e, q0, q1, q2⟩ := row_at hW.st.row hnd
    rw [hn] at e
    rw [hnv] at e
    injection e with e e1 e2
    injection e with e
    injection e with e
    subst e
    have y2 := hW.st.box.ats.2.2.1
    rw [hnv] at y2
    exact ⟨⟨hW.ats.1, hW.ats.2.1, y2⟩, q1, q2⟩)
  have HH := Lib.hid h
  have HHD : Hid (CtAt B b vars budget nv pb S E w.drew) := Lib.hid h.drew
  obtain ⟨⟨x0, x1, x2⟩, x3, x4⟩ := HX.out w h
  have hd : decide ((f : Int) < 2) = false := decide_eq_false (by omega)
  have HWR : Hid (IntKind.i64.wrap ((IntKind.i64.wrap ((cl : Int) + (ch : Int))).tdiv 2) = (((cl + ch) / 2 : Nat) : Int)) := Lib.hid (by
    rw [IntWalk.i64_left, IntWalk.i64_left]
    rw [wrap64_in ((cl : Int) + (ch : Int)) ⟨by omega, by omega⟩]
    have : ((cl : Int) + (ch : Int)).tdiv 2 = (((cl + ch) / 2 : Nat) : Int) := by rw [← Int.natCast_add]; rfl
    rw [this]
    exact wrap64_in _ ⟨by omega, by omega⟩)
  clear h hnd hdn hcl hch hnv hn hp hlo hhi
  go_enter Try.func43, Try.ntmps43
  go_wp2_with fail
  go_region_held3 (fun W => (W.cell? ⟨E, 0, none⟩ = some (.pointer (some ⟨b, 0, none⟩)) ∧ W.cell? ⟨E + 2, 0, none⟩ = some (.func (.func 54) #[] #[.pointer (some ⟨E + 5, 0, none⟩), .pointer (some ⟨E + 3, 0, none⟩)]) ∧ W.cell? ⟨b, 2, none⟩ = some (.slice (some ⟨g, 0, none⟩) n cap)) ∧ W.cell? ⟨g, f * 3 + 1, none⟩ = some (.int .i64 (lo : Int)) ∧ W.cell? ⟨g, f * 3 + 2, none⟩ = some (.int .i64 (hi : Int)))
    (first | go_keep | exact ⟨⟨x0, x1, x2⟩, x3, x4⟩ | exact p1 | exact p2)
    (first
      | (go_at_call 54; with_reducible refine (HHI.out _ HC2.out).mono ?_; rintro r w3 ⟨rfl, hc3, hf3⟩; have HC3 := Lib.hid hc3; have HF3 := Lib.hid hf3; have p2 := HX.out w3 hc3; clear hc3 hf3)
      | (go_at_call 54; with_reducible refine (HLO.out _ (by first | exact HHD.out | exact HH.out)).mono ?_; rintro r w2 ⟨rfl, hc2, hf2⟩; have HC2 := Lib.hid hc2; have HF2 := Lib.hid hf2; have p1 := HX.out w2 hc2; clear hc2 hf2))
  all_goals
    go_wp2
    rw [HWR.out]
    refine bodyPost_ret (v := .int .i64 (((cl + ch) / 2 : Nat) : Int)) (by simp [results, Try.results43, go_sem]) rfl ⟨by rw [HC.out], HC3.out, ?_⟩
    first
      | exact HF2.out.trans HF3.out
      | exact CtFr.trans (CtFr.drew (CtFr.refl E w)) (HF2.out.trans HF3.out)

theorem count_of (B b vars budget : Nat) (nv : Value) (pb : Nat) (S : List Nd) (E : Nat) : ∀ (n f : Nat) (w : World), f < n → f < S.length → CtAt B b vars budget nv pb S E w →
    Calls Try.prog 54 #[.int .i64 (f : Int), .pointer (some ⟨E + 5, 0, none⟩), .pointer (some ⟨E + 3, 0, none⟩)] w (fun e w' => e = .returned (.int .i64 (cntD vars S f : Nat)) ∧ CtAt B b vars budget nv pb S E w' ∧ CtFr E w w') := by
  intro n
  induction n with
  | zero => intro f w h; omega
  | succ n ih =>
    intro f w hfn hf h
    have hlen := h.st.hlen
    have hbud := h.st.hbud
    obtain ⟨k, mf, hm, hk, hs⟩ := h.c4
    obtain ⟨c0, c2, c3, c5⟩ := h.ats
    have hmiss : Calls Try.prog 43 #[.int .i64 (f : Int), .pointer (some ⟨E, 0, none⟩), .pointer (some ⟨E + 2, 0, none⟩)] w (fun e w' => e = .returned (.int .i64 (cntD vars S f : Nat)) ∧ CtAt B b vars budget nv pb S E w' ∧ CtFr E w w') := by
      by_cases h2 : f < 2
      · exact (count_low B b vars budget nv pb S E w h f h2).mono (fun e w' ⟨a, b2⟩ => by subst b2; exact ⟨a, h, CtFr.refl _ _⟩)
      · obtain ⟨t, lo, hi, hnd⟩ := at_of hf
        exact count_high B b vars budget nv pb S E w h f t lo hi (by omega) hnd (fun W g hg hW => ih g W (by omega) (by omega) hW)
    refine rem_count w (E + 5) (E + 3) (E + 4) k f E (E + 2) (by omega) mf hm hk c5 c3 _ (fun v hv => ⟨_, hs f v hv, rfl, h, CtFr.refl _ _⟩) (fun _ => hmiss.mono ?_)
    rintro e w2 ⟨rfl, hC, hF⟩
    obtain ⟨n2, f2, hm2, hn2, hs2⟩ := hC.c4
    refine ⟨_, rfl, hC.ats.2.2.2, n2, f2, hm2, hn2, fun w4 n4 f4 hg hm4 hn4 hu => ⟨rfl, ?_⟩⟩
    have hgf : CtFr E w2 w4 := ⟨?_, hg.os, hg.tape, hg.output, ?_⟩
    · exact ⟨hC.moved hgf ⟨n4, f4, hm4, hn4, fun x v hv => by
        rcases hu x v hv with ⟨rfl, rfl⟩ | e
        · rfl
        · exact hs2 x v e⟩, hF.trans hgf⟩
    · exact hg.size
    · intro g hl hne
      exact hg.block g hl (by simpa using hne)
end Go.Proofs.Ytfohjlepknnleaa.Bd
