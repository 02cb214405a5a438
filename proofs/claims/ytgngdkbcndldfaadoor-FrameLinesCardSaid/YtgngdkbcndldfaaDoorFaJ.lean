/- What the document reads. Conditions: lengths within a machine's. -/
import Derived.Test.YtgngdkbcndldfaaDoorFaI
namespace Go.Proofs.YtgngdkbcndldfaaDoor.Fr
open Go.ChangeShapes Go.WideShapes Go.ChangeAt Go.RowKit Go.Proofs.YtgngdkbcndldfaaDoor.Tr
set_option linter.unusedVariables false
set_option linter.unusedSimpArgs false

theorem fault_cells {w1 : World} {B : Nat} {o : Obj} {u0 u1 : Value} (v0 v1 : Value) {T : TypeId} (hh : w1.heap[B]? = some (.cells #[u0, u1] T (0, 0))) :
    (((w1.setCell ⟨B, 0, none⟩ v0).setCell ⟨B, 1, none⟩ v1).alloc o).cell? ⟨B, 0, none⟩ = some v0 ∧ (((w1.setCell ⟨B, 0, none⟩ v0).setCell ⟨B, 1, none⟩ v1).alloc o).cell? ⟨B, 1, none⟩ = some v1 := by
  have hlt := lt_of_block hh
  have h2 : ((w1.setCell ⟨B, 0, none⟩ v0).setCell ⟨B, 1, none⟩ v1).heap[B]? = some (.cells #[v0, v1] T (0, 0)) := by simp [World.setCell, Array.getElem?_modify, hh]
  have h3 := (Below.heap_alloc ((w1.setCell ⟨B, 0, none⟩ v0).setCell ⟨B, 1, none⟩ v1) o B (by simp [World.setCell]; exact hlt)).trans h2
  constructor <;> simp [World.cell?, h3]
theorem fault_two {w1 : World} {B : Nat} {u0 u1 : Value} (v0 v1 : Value) {T : TypeId} (hh : w1.heap[B]? = some (.cells #[u0, u1] T (0, 0))) :
    ((w1.setCell ⟨B, 0, none⟩ v0).setCell ⟨B, 1, none⟩ v1).cell? ⟨B, 0, none⟩ = some v0 ∧ ((w1.setCell ⟨B, 0, none⟩ v0).setCell ⟨B, 1, none⟩ v1).cell? ⟨B, 1, none⟩ = some v1 := by
  have h2 : ((w1.setCell ⟨B, 0, none⟩ v0).setCell ⟨B, 1, none⟩ v1).heap[B]? = some (.cells #[v0, v1] T (0, 0)) := by simp [World.setCell, Array.getElem?_modify, hh]
  constructor <;> simp [World.cell?, h2]
theorem own_set' {b X k : Nat} {e : TypeId} {s : Nat} {v u : Value} {n : Nat} {xs : List Value} {w : World} (h : w.ownsRow b e s v n xs) (hX : X < b) : (w.setCell ⟨X, k, none⟩ u).ownsRow b e s v n xs :=
  own_block h (fun g hg => Below.heap_setCell _ _ _ _ (by have := (h.lt g hg).1; show g ≠ X; omega))
theorem OutV.set {w : World} {b X k : Nat} {v u : Value} {l : List (List Int)} {vs : List Value} (h : OutV w b v l vs) (hX : X < b) : OutV (w.setCell ⟨X, k, none⟩ u) b v l vs :=
  ⟨own_set' h.1 hX, h.2.1, fun i r u hi hu => own_set' (h.2.2 i r u hi hu) hX⟩
/-- What is read: rows, a fault and where. -/
abbrev ReadPost (p : List (List Int) × Int × Int) (w : World) (e : Ending) (w' : World) : Prop :=
  ∃ v, e = .returned (.tuple #[v, .agg #[.int .i64 p.2.1, .int .i64 p.2.2]]) ∧ RowsR w' v p.1 ∧ Below w.heap.size w w'
theorem read_many {ts : List Int} {S : Bs} (h : 100000 < S.length ∨ 200 < ts.length) : readM ts S = ([], 7, -1) := by unfold readM; rw [if_pos h]
theorem read_stop {ts : List Int} {S : Bs} {k : Nat} {l : Bs} {R : List (List Int)} (h : ¬ (100000 < S.length ∨ 200 < ts.length)) (hl : (linesM S)[k]? = some l) (hg : goM ts ((linesM S).take k) = (R, true)) (hr : rowM ts (wordsM l) = none) : readM ts S = (R, 17, (R.length : Int)) := by
  have e : linesM S = (linesM S).take k ++ l :: (linesM S).drop (k + 1) := by rw [← drop_at hl, List.take_append_drop]
  have hgo := goM_stop ts ((linesM S).take k) l ((linesM S).drop (k + 1)) (by rw [hg]) hr
  rw [← e, hg] at hgo
  unfold readM
  rw [if_neg h, hgo]
  rfl
theorem read_all {ts : List Int} {S : Bs} {R : List (List Int)} (h : ¬ (100000 < S.length ∨ 200 < ts.length)) (hg : goM ts (linesM S) = (R, true)) : readM ts S = (R, 0, 0) := by
  unfold readM
  rw [if_neg h, hg]
  rfl
theorem go_next {ts : List Int} {L : List Bs} {k : Nat} {l : Bs} {R : List (List Int)} {r : List Int} (hl : L[k]? = some l) (hg : goM ts (L.take k) = (R, true)) (hr : rowM ts (wordsM l) = some r) : goM ts (L.take (k + 1)) = (R ++ [r], true) := by
  rw [List.take_add_one, hl]
  have := goM_snoc_ok ts (L.take k) l r (by rw [hg]) hr
  rw [hg] at this
  exact this
theorem lines_small (S : Bs) : (linesM S).length ≤ S.length + 1 ∧ ∀ l ∈ linesM S, l.length ≤ S.length := by
  have h := lines_sum S
  have key : ∀ L : List Bs, L.length ≤ (L.map fun l => l.length + 1).sum ∧ ∀ l ∈ L, l.length + 1 ≤ (L.map fun l => l.length + 1).sum := by
    intro L
    induction L with
    | nil => simp
    | cons a L ih =>
      refine ⟨by simp only [List.length_cons, List.map_cons, List.sum_cons]; have := ih.1; omega, fun l hl => ?_⟩
      simp only [List.map_cons, List.sum_cons]
      simp only [List.mem_cons] at hl
      rcases hl with rfl | hl
      · omega
      · have := ih.2 l hl; omega
  exact ⟨by have := (key (linesM S)).1; omega, fun l hl => by have := (key (linesM S)).2 l hl; omega⟩

set_option maxRecDepth 100000 in
set_option maxHeartbeats 4000000 in
theorem dread_any (w : World) (tv : Value) (ts : List Int) (S : Bs) (ht : Ints w tv ts) (hS : S.length ≤ 1000000) :
    Calls Tryd.prog 11 #[tv, .string (bs S)] w (ReadPost (readM ts S) w) := by
  obtain ⟨i0, hi0, hz0, hz1, hz3⟩ := info_parts infoS
  obtain ⟨A, c, rfl, z1, z2⟩ := ints_form ht
  have HT := Lib.hid ht
  obtain ⟨n, hn⟩ : ∃ n, ts.length = n := ⟨_, rfl⟩
  obtain ⟨s, hs⟩ : ∃ n, S.length = n := ⟨_, rfl⟩
  have hsz : (bs S).size = s := by rw [bs_size, hs]
  rw [hn] at HT z1 ⊢
  rw [hs] at hS
  have HN := Lib.hid hn
  have HSL := Lib.hid hs
  unfold maxLen at z2
  clear ht hn hs
  obtain ⟨w0, hw0⟩ : ∃ W, w.alloc (.cells #[.int .i64 0, .int .i64 0] 27) = W := ⟨_, rfl⟩
  have HX0 : Hid (w0.heap[w.heap.size]? = some (.cells #[.int .i64 0, .int .i64 0] 27 (0, 0))) := Lib.hid (by rw [← hw0]; exact heap_alloc_new _ _)
  have HB0 : Hid (Below w.heap.size w w0) := Lib.hid (by rw [← hw0]; exact below_new _ _)
  have hs0 : w0.heap.size = w.heap.size + 1 := by rw [← hw0]; simp
  have HW0 := Lib.hid hw0
  have c0 : w0.cell? ⟨w.heap.size, 0, none⟩ = some (.int .i64 0) := by simp [World.cell?, HX0.out]
  have c1 : w0.cell? ⟨w.heap.size, 1, none⟩ = some (.int .i64 0) := by simp [World.cell?, HX0.out]
  have f0 : w0.frozen? ⟨w.heap.size, 0, none⟩ = false := by simp [World.frozen?, HX0.out]
  have f1 : w0.frozen? ⟨w.heap.size, 1, none⟩ = false := by simp [World.frozen?, HX0.out]
  by_cases hmany : 100000 < s ∨ 200 < n
  · have HM := Lib.hid (read_many (ts := ts) (S := S) (by rw [HSL.out, HN.out]; exact hmany))
    have hgo : ∀ (Q : Prop), ((100000 : Int) < (s : Int) → Q) → (¬ (100000 : Int) < (s : Int) → (200 : Int) < (n : Int) → Q) → Q := fun Q q1 q2 => by
      by_cases e : 100000 < s
      · exact q1 (by omega)
      · exact q2 (by omega) (by omega)
    rw [HM.out]
    clear hmany
    refine hgo _ (fun he => ?_) (fun he he2 => ?_)
    all_goals
      clear hgo
      go_enter Tryd.func11, Tryd.ntmps11
      go_wp2_with fail
      refine bodyPost_ret (v := .tuple #[.slice none 0 0, .agg #[.int .i64 7, .int .i64 (-1)]]) ?_ rfl ⟨_, rfl, rows_nil _, ?_⟩
      · obtain ⟨k0, k1⟩ := fault_two (.int .i64 7) (.int .i64 (-1)) HX0.out
        clear c0 c1 f0 f1
        simp [results, Tryd.results11, go_sem, k0, k1]
      · repeat (first | exact HB0.out | refine Below.alloc ?_ (by simp [World.setCell]; omega) _ | refine Below.setCell ?_ (by exact Nat.le_refl _) _ | refine Below.drew ?_)
  · have hn1 : ¬ (100000 : Int) < (s : Int) := by omega
    have hn2 : ¬ (200 : Int) < (n : Int) := by omega
    have HMY : Hid (¬ (100000 < S.length ∨ 200 < ts.length)) := Lib.hid (by rw [HSL.out, HN.out]; exact hmany)
    have HLN := Lib.hid (dlines_any w0 S (by rw [HSL.out]; exact hS))
    obtain ⟨hln1, hln2⟩ := lines_small S
    obtain ⟨L, hL⟩ : ∃ L, linesM S = L := ⟨_, rfl⟩
    have HL := Lib.hid hL
    have HLL : Hid (∀ l ∈ L, l.length ≤ 1000000) := Lib.hid (fun l hl => by have := hln2 l (by rw [hL]; exact hl); rw [HSL.out] at this; omega)
    obtain ⟨m, hm⟩ : ∃ m, L.length = m := ⟨_, rfl⟩
    have HM := Lib.hid hm
    have hm6 : m ≤ 1000001 := by rw [hL, hm, HSL.out] at hln1; omega
    rw [hL] at HLN
    clear hmany hln1 hln2 hL hm
    go_enter Tryd.func11, Tryd.ntmps11
    go_wp2_with fail
    refine HLN.out.mono ?_
    rintro e w1 ⟨lv, rfl, hls, hb1⟩
    obtain ⟨LA, lc, rfl, y1, y2⟩ := hls.form
    have HLS := Lib.hid hls
    have HB1 := Lib.hid hb1
    have hw1 := hb1.size
    rw [HM.out] at HLS y1 ⊢
    have HX1 : Hid (w1.heap[w.heap.size]? = some (.cells #[.int .i64 0, .int .i64 0] 27 (0, 0))) := Lib.hid ((hb1.block _ (by omega)).trans HX0.out)
    have HT1 := Lib.hid (HT.out.below (HB0.out.trans (hb1.mono (by omega))) (Nat.le_refl _))
    unfold maxLen at y2
    clear hls hb1 c0 c1 f0 f1 hw0
    go_wp2_with fail
    go_loopw [6, 8] (fun v vi wr => ∃ (k : Nat) (R : List (List Int)) (vs : List Value), goM ts (L.take k) = (R, true) ∧ R.length = k ∧ k ≤ m ∧ vi = .int .i64 (k : Int) ∧ OutV wr w1.heap.size v R vs ∧ Below w1.heap.size w1 wr) (fun _ vi _ => m - (intOf vi).toNat)
    case atStart => exact ⟨0, [], [], rfl, rfl, Nat.zero_le _, rfl, OutV.nil _ _, Below.refl _ _⟩
    case round =>
      obtain ⟨k, R, vs, hgm, hRk, hk, rfl, hr, hb⟩ := hrel
      have HG := Lib.hid hgm
      have HRK := Lib.hid hRk
      have HO := Lib.hid hr
      have HBr := Lib.hid hb
      have hwr := hb.size
      have HXr : Hid (wr.heap[w.heap.size]? = some (.cells #[.int .i64 0, .int .i64 0] 27 (0, 0))) := Lib.hid ((hb.block _ (by omega)).trans HX1.out)
      clear hgm hRk hr hb
      by_cases hlt : k < m
      · obtain ⟨l, hlk⟩ : ∃ l, L[k]? = some l := ⟨_, List.getElem?_eq_getElem (by rw [HM.out]; exact hlt)⟩
        obtain ⟨g', o', rfl, hg', b0⟩ := (HLS.out.below HBr.out (Nat.le_refl _)).at hlk
        have HLK := Lib.hid hlk
        have HC := Lib.hid (drow_any wr (.slice A n c) ts l (HT1.out.below HBr.out (Nat.le_refl _)) (HLL.out l (List.mem_of_getElem? hlk)))
        clear hlk
        go_wp2_with fail
        refine HC.out.mono ?_
        rintro e w2 ⟨hb2, ⟨hno, rfl⟩ | ⟨r, RA, rc, hsome, rfl, hown⟩⟩
        · have HB2 := Lib.hid hb2
          have hw2 := hb2.size
          have HX2 : Hid (w2.heap[w.heap.size]? = some (.cells #[.int .i64 0, .int .i64 0] 27 (0, 0))) := Lib.hid ((hb2.block _ (by omega)).trans HXr.out)
          have HP : Hid (readM ts S = (R, 17, (k : Int))) := Lib.hid (by
            have := read_stop (k := k) HMY.out (by rw [HL.out]; exact HLK.out) (by rw [HL.out]; exact HG.out) hno
            rw [HRK.out] at this; exact this)
          have HO2 := Lib.hid (HO.out.below HB2.out)
          have c0 : w2.cell? ⟨w.heap.size, 0, none⟩ = some (.int .i64 0) := by simp [World.cell?, HX2.out]
          have c1 : w2.cell? ⟨w.heap.size, 1, none⟩ = some (.int .i64 0) := by simp [World.cell?, HX2.out]
          have f0 : w2.frozen? ⟨w.heap.size, 0, none⟩ = false := by simp [World.frozen?, HX2.out]
          have f1 : w2.frozen? ⟨w.heap.size, 1, none⟩ = false := by simp [World.frozen?, HX2.out]
          have HBB : Hid (Below w.heap.size w w2) := Lib.hid (HB0.out.trans ((HB1.out.trans ((HBr.out.trans (HB2.out.mono hwr)).mono hw1)).mono (by omega)))
          clear hno hb2
          go_wp2_with fail
          refine bodyPost_ret (v := .tuple #[u6, .agg #[.int .i64 17, .int .i64 (k : Int)]]) ?_ rfl ⟨u6, by rw [HP.out], ?_, ?_⟩
          · obtain ⟨k0, k1⟩ := fault_two (.int .i64 17) (.int .i64 (k : Int)) HX2.out
            clear c0 c1 f0 f1
            simp [results, Tryd.results11, go_sem, k0, k1]
          · rw [HP.out]
            have h3 := (HO2.out.set (X := w.heap.size) (k := 0) (u := .int .i64 17) (by omega)).set (X := w.heap.size) (k := 1) (u := .int .i64 (k : Int)) (by omega)
            exact h3.rows
          · repeat (first | exact HBB.out | refine Below.alloc ?_ (by simp [World.setCell]; omega) _ | refine Below.setCell ?_ (by exact Nat.le_refl _) _ | refine Below.drew ?_)
        · have HB2 := Lib.hid hb2
          have hw2 := hb2.size
          have HG2 := Lib.hid (go_next HLK.out HG.out hsome)
          have HO2 := Lib.hid (HO.out.below HB2.out)
          have HR2 : Hid (w2.ownsRow w1.heap.size 3 1 (.slice RA r.length rc) r.length (intsOf r)) := Lib.hid (own_base hown hwr)
          have hvl : Hid (R.length = k) := HRK
          have HOR : Hid (w2.ownsRow w1.heap.size 22 1 u6 k vs) := Lib.hid (by have := HO2.out.1; rw [HRK.out] at this; exact this)
          clear hsome hb2 hown
          go_wp2_with (at_builtin; refine wpList_append_lies _ rfl (.tmp 42) (.tmp 44) 24 rfl w1.heap.size 22 i0 _ 1 24 Tryd.underlying24 hi0 hz0 hz1 hz3 rfl (by decide) u6 k _ rfl (HOR.out.alloc _) ⟨w2.heap.size, 0, none⟩ 1 1 [.slice RA r.length rc] rfl rfl ?a2 ?b2 (by omega) ?c2 ?d2 ?e2 (w2.heap.size + 1) ?f2 ?_)
          case a2 => exact World.news_of_block (t := 22) (fr := (0, 0)) (heap_alloc_new _ _)
          case b2 => simp [Value.oneCell']
          case c2 => unfold maxLen; omega
          case d2 => omega
          case e2 => simp; omega
          case f2 => simp
          intro gg cap w4 hown4 hg4 hat _
          have HE : Hid (OutV w4 w1.heap.size (.slice (some ⟨gg, 0, none⟩) (k + 1) cap) (R ++ [r]) (vs ++ [.slice RA r.length rc]) ∧ Below w1.heap.size w1 w4) := Lib.hid ⟨HO2.out.snoc HR2.out _ hg4 (by rw [HRK.out]; exact hown4), ((HBr.out.trans (HB2.out.mono hwr)).trans ((below_new w2 _).mono (by omega))).grown hg4 (by simp; omega) (fun g e => (HOR.out.lt g e).1)⟩
          clear hown4 hg4 hat
          go_wp2
          refine ⟨⟨k + 1, R ++ [r], vs ++ [.slice RA r.length rc], HG2.out, by rw [List.length_append, HRK.out]; rfl, by omega, by go_num, HE.out.1, HE.out.2⟩, by first | (simp [intOf]; done) | (simp [intOf]; omega)⟩
      · obtain rfl : k = m := by omega
        have HP : Hid (readM ts S = (R, 0, 0)) := Lib.hid (read_all HMY.out (by
          have := HG.out
          rw [List.take_of_length_le (by rw [HM.out]; exact Nat.le_refl _)] at this
          rw [HL.out]; exact this))
        have c0 : wr.cell? ⟨w.heap.size, 0, none⟩ = some (.int .i64 0) := by simp [World.cell?, HXr.out]
        have c1 : wr.cell? ⟨w.heap.size, 1, none⟩ = some (.int .i64 0) := by simp [World.cell?, HXr.out]
        have f0 : wr.frozen? ⟨w.heap.size, 0, none⟩ = false := by simp [World.frozen?, HXr.out]
        have f1 : wr.frozen? ⟨w.heap.size, 1, none⟩ = false := by simp [World.frozen?, HXr.out]
        have HBB : Hid (Below w.heap.size w wr) := Lib.hid (HB0.out.trans ((HB1.out.trans (HBr.out.mono hw1)).mono (by omega)))
        go_wp2_with fail
        refine bodyPost_ret (v := .tuple #[u6, .agg #[.int .i64 0, .int .i64 0]]) ?_ rfl ⟨u6, by rw [HP.out], ?_, ?_⟩
        · obtain ⟨k0, k1⟩ := fault_two (.int .i64 0) (.int .i64 0) HXr.out
          clear c0 c1 f0 f1
          simp [results, Tryd.results11, go_sem, k0, k1]
        · rw [HP.out]
          have h3 := (HO.out.set (X := w.heap.size) (k := 0) (u := .int .i64 0) (by omega)).set (X := w.heap.size) (k := 1) (u := .int .i64 0) (by omega)
          exact h3.rows
        · repeat (first | exact HBB.out | refine Below.alloc ?_ (by simp [World.setCell]; omega) _ | refine Below.setCell ?_ (by exact Nat.le_refl _) _ | refine Below.drew ?_)
end Go.Proofs.YtgngdkbcndldfaaDoor.Fr
