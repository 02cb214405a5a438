/- The document's run of a net. Conditions: the net has at most 1000 operators and roots; at most 1000 instants. -/
import Derived.Test.YtcphjehjdhgheaaNkB
import Derived.Test.YtcphjehjdhgheaaNtP
import Derived.Test.YtcphjehjdhgheaaNtN
import Derived.Test.YtcphjehjdhgheaaNkQ
import Derived.Deep.OwnRows
namespace Go.Proofs.Ytcphjehjdhgheaa.Nt
open Go.ChangeShapes Go.WideShapes Go.ChangeAt Go.RowKit Go.Proofs.Ytcphjehjdhgheaa.Tr
set_option linter.unusedVariables false
set_option linter.unusedSimpArgs false

theorem infoS : (Try.prog.info? 23).map (fun i => (i.zero, i.size, i.bytes)) = some (some (.slice none 0 0), 1, 24) := by kernel_rfl
theorem drop_at {α : Type} {l : List α} {i : Nat} {x : α} (h : l[i]? = some x) : l.drop i = x :: l.drop (i + 1) := by
  obtain ⟨hi, e⟩ := List.getElem?_eq_some_iff.1 h
  rw [List.drop_eq_getElem_cons hi, e]
def RunPost (w : World) (p : List (List Int) × Int) (e : Ending) (w' : World) : Prop := ∃ v, e = .returned (.tuple #[v, .int .i64 p.2]) ∧ RowsR w' v p.1 ∧ Below w.heap.size w w'
theorem least_of {b e : Int} {b1 b2 b3 : Bool} (h1 : (e != 0) = b1) (h2 : (b == 0) = b2) (h3 : decide (e < b) = b3) : leastE b e = if (b1 && (b2 || b3)) = true then e else b := by
  unfold leastE
  subst h1 h2 h3
  by_cases he : e = 0 <;> by_cases hb : b = 0 <;> by_cases hl : e < b <;> simp [he, hb, hl]
/-- A row of rows that one has made oneself, each row one's own. -/
def OutV (w : World) (b : Nat) (v : Value) (l : List (List Int)) (vs : List Value) : Prop :=
  w.ownsRow b 23 1 v l.length vs ∧ vs.length = l.length ∧ ∀ (i : Nat) (r : List Int) (u : Value), l[i]? = some r → vs[i]? = some u → w.ownsRow b 3 1 u r.length (intsOf r)
theorem OutV.nil (w : World) (b : Nat) : OutV w b (.slice none 0 0) [] [] := ⟨World.ownsRow_nil _ _ _ _, rfl, fun i r u h => by simp at h⟩
theorem OutV.below {w w' : World} {b : Nat} {v : Value} {l : List (List Int)} {vs : List Value} (h : OutV w b v l vs) (hb : Below w.heap.size w w') : OutV w' b v l vs := ⟨own_below h.1 hb, h.2.1, fun i r u hi hu => own_below (h.2.2 i r u hi hu) hb⟩
theorem OutV.rows {w : World} {b : Nat} {v : Value} {l : List (List Int)} {vs : List Value} (h : OutV w b v l vs) : RowsR w v l := OutR.rows ⟨vs, h.1, h.2.1, fun i r u hi hu => Ints.of_own (h.2.2 i r u hi hu)⟩
/-- A row of another type stays where one grows. -/
theorem own_past {w w7 : World} {b b' n n' s s' : Nat} {T T' : TypeId} {v v' : Value} {xs ys : List Value} (h : w.ownsRow b T s v n xs) (hr : w.ownsRow b' T' s' v' n' ys) (hT : T ≠ T') (o : Obj) (hg : (w.alloc o).grownBy w7 v'.ownBlock) : w7.ownsRow b T s v n xs :=
  own_block h (fun p hp => by
    have hpl := (h.lt p hp).2
    rw [hg.block p (by simp; omega) (fun e => own_two h hr hT hp e.symm), Below.heap_alloc _ _ _ hpl])
theorem OutV.snoc {w w7 : World} {b : Nat} {v v' u : Value} {l : List (List Int)} {vs : List Value} {r : List Int} (h : OutV w b v l vs) (hu : w.ownsRow b 3 1 u r.length (intsOf r)) (o : Obj) (hg : (w.alloc o).grownBy w7 v.ownBlock)
    (ho : w7.ownsRow b 23 1 v' (l.length + 1) (vs ++ [u])) : OutV w7 b v' (l ++ [r]) (vs ++ [u]) := by
  refine ⟨by rw [List.length_append]; exact ho, by rw [List.length_append, List.length_append, h.2.1]; rfl, fun i r' u' hi hu' => ?_⟩
  by_cases hil : i < l.length
  · rw [List.getElem?_append_left hil] at hi
    rw [List.getElem?_append_left (by rw [h.2.1]; exact hil)] at hu'
    exact own_past (h.2.2 i r' u' hi hu') h.1 (by decide) o hg
  · rw [List.getElem?_append_right (by omega)] at hi
    rw [List.getElem?_append_right (by rw [h.2.1]; omega), h.2.1] at hu'
    have h0 : i - l.length = 0 := by have := (List.getElem?_eq_some_iff.1 hi).1; simpa using this
    rw [h0] at hi hu'
    simp at hi hu'
    subst hi hu'
    exact own_past hu h.1 (by decide) o hg
theorem take_next' {N : Net} {row was : List Int} {k j : Nat} (h : (orderN N)[k]? = some j) (s : List Int × Int) : ((orderN N).take (k + 1)).foldl (stepN N row was) s = stepN N row was (((orderN N).take k).foldl (stepN N row was) s) j := by
  rw [List.take_add_one, h, List.foldl_append]; rfl
def partN (N : Net) (row was : List Int) (k : Nat) : List Int × Int := ((orderN N).take k).foldl (stepN N row was) (List.replicate N.ops.length 0, 0)
theorem part_zero (N : Net) (row was : List Int) : partN N row was 0 = (List.replicate N.ops.length 0, 0) := by unfold partN; simp
theorem part_succ {N : Net} {row was : List Int} {k j : Nat} (h : (orderN N)[k]? = some j) : partN N row was (k + 1) = stepN N row was (partN N row was k) j := take_next' h _
theorem part_all {N : Net} {row was : List Int} {n : Nat} (h : (orderN N).length = n) : partN N row was n = instN N row was := by unfold partN instN; rw [← h, List.take_length]
theorem part_len (N : Net) (row was : List Int) (k : Nat) : (partN N row was k).1.length = N.ops.length := by unfold partN; rw [step_len]; simp
theorem frame_len {tys row : List Int} (h : frameB tys row = true) : row.length = tys.length := by unfold frameB at h; simp only [Bool.and_eq_true] at h; exact of_decide_eq_true h.1
set_option maxRecDepth 100000 in
set_option maxHeartbeats 16000000 in
theorem drun_any (w : World) (ov rv iv lv : Value) (N : Net) (l : List (List Int)) (h : NetR w ov rv iv N) (hl : RowsR w lv l) (hn3 : N.ops.length ≤ 1000) (hr3 : N.roots.length ≤ 1000) (hl3 : l.length ≤ 1000) :
    Calls Try.prog 29 #[.agg #[ov, rv, iv], lv] w (RunPost w (runN N l)) := by
  obtain ⟨i0, hi0, hz0, hz1, hz2⟩ := info_parts info3
  obtain ⟨j0, hj0, hy0, hy1, hy2⟩ := info_parts infoS
  have HH := Lib.hid h
  obtain ⟨A, c, rfl, z1, z2⟩ := h.1.form
  obtain ⟨A2, c2, rfl, z3, z4⟩ := ints_form h.2.1
  obtain ⟨A3, c3, rfl, z5, z6⟩ := ints_form h.2.2
  obtain ⟨AL, cl, rfl, z7, z8⟩ := hl.form
  obtain ⟨n, hn⟩ : ∃ L, N.ops.length = L := ⟨_, rfl⟩
  obtain ⟨nr, hnr⟩ : ∃ L, N.roots.length = L := ⟨_, rfl⟩
  obtain ⟨ni, hni⟩ : ∃ L, N.ins.length = L := ⟨_, rfl⟩
  obtain ⟨m, hml⟩ : ∃ L, l.length = L := ⟨_, rfl⟩
  have HN := Lib.hid hn
  have HNR := Lib.hid hnr
  have HNI := Lib.hid hni
  have HML := Lib.hid hml
  rw [hn, hnr, hni] at HH
  rw [hn] at z1 hn3 ⊢
  rw [hnr] at z3 hr3 ⊢
  rw [hni] at z5 ⊢
  rw [hml] at z7 hl3 hl ⊢
  unfold maxLen at z2 z4 z6 z8
  obtain ⟨x, hx⟩ : ∃ W, w.alloc (.cells #[.slice A n c, .slice A2 nr c2, .slice A3 ni c3] 25) = W := ⟨_, rfl⟩
  have HX := Lib.hid hx
  have HBX : Hid (Below w.heap.size w x) := Lib.hid (by rw [← hx]; exact below_new _ _)
  have HXX : Hid (NetBox x w.heap.size 25 (.slice A n c) (.slice A2 nr c2) (.slice A3 ni c3)) := Lib.hid (by rw [← hx]; exact box_new _ _ _ _ _)
  have HNX := Lib.hid (HH.out.below HBX.out (Nat.le_refl _))
  have HLX := Lib.hid (hl.below HBX.out (Nat.le_refl _))
  obtain ⟨p0, p1, p2⟩ := HXX.out.ats
  obtain ⟨C, hC⟩ : ∃ C, checkN N = C := ⟨_, rfl⟩
  have HC := Lib.hid hC
  clear h hl hx hn hnr hni hml hC
  go_enter Try.func29, Try.ntmps29
  go_wp2_with fail
  rw [HX.out]
  refine (dcheck_any x _ _ _ N HNX.out).mono ?_
  rw [HC.out]
  rintro e w1 ⟨rfl, hb1⟩
  have HB1 := Lib.hid hb1
  obtain ⟨q0, q1, q2⟩ := (HXX.out.below hb1 HXX.out.lt).ats
  clear hb1 p0 p1 p2
  by_cases hc : C ≠ 0
  · have hne : (C != 0) = true := by simpa using hc
    have HR : Hid (runN N l = ([], C)) := Lib.hid (by unfold runN; rw [HC.out, if_pos hc])
    go_wp2_with fail
    exact bodyPost_ret (v := .tuple #[.slice none 0 0, .int .i64 C]) (by simp [results, Try.results29, go_sem]) rfl ⟨_, by rw [HR.out], by rw [HR.out]; exact rows_nil _, HBX.out.trans (HB1.out.mono HBX.out.size)⟩
  · have hc : C = 0 := by omega
    subst hc
    have HRUN : Hid (runN N l = goN N l [] []) := Lib.hid (by unfold runN; rw [HC.out, if_neg (by omega)])
    have HMAY : Hid (mayN N = true) := Lib.hid (check_ok.1 HC.out).1
    go_wp2_with fail
    refine (dorder_any w1 _ _ _ N (HNX.out.below HB1.out (Nat.le_refl _)) HMAY.out).mono ?_
    rintro e w2 ⟨ordv, rfl, ho, hb2⟩
    have HOL : Hid ((orderN N).length = n) := Lib.hid (by rw [order_len HC.out]; exact HN.out)
    rw [HOL.out] at ho
    have HORD : Hid (Ints w2 ordv (natI (orderN N))) := Lib.hid (Ints.of_own (b := w1.heap.size) (l := natI (orderN N)) (by rw [show (natI (orderN N)).length = n by unfold natI; simp; exact HOL.out]; exact ho))
    obtain ⟨oA, oc, rfl⟩ : ∃ A c, ordv = .slice A n c := by
      obtain ⟨-, h1 | ⟨g, cap, cur, e, -⟩⟩ := ho
      · have := h1.2; rw [h1.1]; exact ⟨none, 0, by rw [this]⟩
      · exact ⟨_, _, e⟩
    have HORDN : Hid (∀ k j, (orderN N)[k]? = some j → j < n) := Lib.hid (fun k j hj => by rw [← HN.out]; exact order_lt (List.mem_of_getElem? hj))
    have HB2 : Hid (Below x.heap.size x w2) := Lib.hid (HB1.out.trans (hb2.mono HB1.out.size))
    have HX2 := Lib.hid (HXX.out.below HB2.out HXX.out.lt)
    have HN2 := Lib.hid (HNX.out.below HB2.out (Nat.le_refl _))
    have HL2 := Lib.hid (HLX.out.below HB2.out (Nat.le_refl _))
    have HBw2 : Hid (Below w.heap.size w w2) := Lib.hid (HBX.out.trans (HB2.out.mono HBX.out.size))
    clear ho hb2 q0 q1 q2
    go_wp2_with fail
    go_loopw [8, 9, 10] (fun v8 v9 v10 wr => ∃ (i : Nat) (out : List (List Int)) (vs : List Value) (was : List Int) (A8 : Option Addr) (c8 : Nat) (A9 : Option Addr) (k9 c9 : Nat), i ≤ m ∧ v10 = .int .i64 (i : Int) ∧ v8 = .slice A8 out.length c8 ∧ v9 = .slice A9 k9 c9 ∧ was.length = k9 ∧
      OutV wr w2.heap.size (.slice A8 out.length c8) out vs ∧ wr.ownsRow w2.heap.size 3 1 (.slice A9 k9 c9) k9 (intsOf was) ∧ (k9 = 0 ∨ k9 = n) ∧ out.length ≤ i ∧ Below w2.heap.size w2 wr ∧ goN N l [] [] = goN N (l.drop i) was out) (fun v8 v9 v10 _ => m - (intOf v10).toNat)
    case atStart => exact ⟨0, [], [], [], none, 0, none, 0, 0, Nat.zero_le _, rfl, rfl, rfl, rfl, OutV.nil _ _, World.ownsRow_nil _ _ _ _, .inl rfl, Nat.le_refl _, Below.refl _ _, rfl⟩
    case round =>
      obtain ⟨i, out, vs, was, A8, c8, A9, k9, c9, hi, rfl, rfl, rfl, hk9, hout, hwas, hk0, hol, hb, hgo⟩ := hrel
      obtain ⟨k8, hk8⟩ : ∃ k, out.length = k := ⟨_, rfl⟩
      rw [hk8] at hout hol ⊢
      have HK8 := Lib.hid hk8
      have HK9 := Lib.hid hk9
      have HK0 := Lib.hid hk0
      have HOUT := Lib.hid hout
      have HWAS := Lib.hid hwas
      have HB := Lib.hid hb
      have HGO := Lib.hid hgo
      have HWI : Hid (Ints wr (.slice A9 k9 c9) was) := Lib.hid (by
        have := Ints.of_own (l := was) (by rw [hk9]; exact hwas)
        exact this)
      obtain ⟨wm, hwm⟩ : ∃ W, W = wr := ⟨_, rfl⟩
      subst hwm
      clear hout hwas hb hgo hk8 hk9 hk0
      by_cases him : i < m
      · obtain ⟨row, hrow⟩ : ∃ r, l[i]? = some r := ⟨_, List.getElem?_eq_getElem (by rw [HML.out]; exact him)⟩
        have HGR : Hid (goN N (l.drop i) was out = if frameB N.ins row = false then (out, 17) else if (instN N row was).2 ≠ 0 then (out, (instN N row was).2) else goN N (l.drop (i + 1)) (instN N row was).1 (out ++ [rowN N (instN N row was).1])) := Lib.hid (by rw [drop_at hrow]; rfl)
        obtain ⟨lg, lo, RB, rd, rfl, hlg, e0, e1, e2, hri⟩ := (HL2.out.below HB.out (Nat.le_refl _)).at hrow
        have HRI := Lib.hid hri
        unfold maxLen at e2
        obtain ⟨kr, hkr⟩ : ∃ k, row.length = k := ⟨_, rfl⟩
        have HKR := Lib.hid hkr
        rw [hkr] at e0 e1 HRI
        have hlg2 : lg < wm.heap.size := hlg
        have HXm := Lib.hid (HX2.out.below HB.out HX2.out.lt)
        obtain ⟨q0, q1, q2⟩ := HXm.out.ats
        have HKS : Hid (∀ W, Below wm.heap.size wm W → W.cell? ⟨w.heap.size, 0, none⟩ = some (.slice A n c) ∧ W.cell? ⟨w.heap.size, 1, none⟩ = some (.slice A2 nr c2) ∧ W.cell? ⟨w.heap.size, 2, none⟩ = some (.slice A3 ni c3) ∧ W.cell? ⟨lg, lo + i, none⟩ = some (.slice RB kr rd)) := Lib.hid (fun W hW => by
          obtain ⟨a0, a1, a2⟩ := (HXm.out.below hW HXm.out.lt).ats
          exact ⟨a0, a1, a2, (hW.cell hlg2).trans e0⟩)
        have HBcur : Hid (Below wm.heap.size wm wm.drew) := Lib.hid (Below.refl _ _).drew
        have HFR := Lib.hid (fun W (hW : Below wm.heap.size wm W) => dframe_any W (.slice A n c) (.slice A2 nr c2) (.slice A3 ni c3) (.slice RB kr rd) N.ins row ((HN2.out.2.2.below HB.out (Nat.le_refl _)).below hW (Nat.le_refl _)) (HRI.out.below hW (Nat.le_refl _)))
        obtain ⟨fb, hfb⟩ : ∃ b, frameB N.ins row = b := ⟨_, rfl⟩
        rw [hfb] at HFR HGR
        have HFB := Lib.hid hfb
        clear hrow hri hlg hkr hfb e0 q0 q1 q2
        go_wp2_with fail
        go_region_held3 (fun W => W.cell? ⟨w.heap.size, 0, none⟩ = some (.slice A n c) ∧ W.cell? ⟨w.heap.size, 1, none⟩ = some (.slice A2 nr c2) ∧ W.cell? ⟨w.heap.size, 2, none⟩ = some (.slice A3 ni c3) ∧ W.cell? ⟨lg, lo + i, none⟩ = some (.slice RB kr rd))
          (exact HKS.out _ HBcur.out)
          (first | (go_at_call 59; with_reducible refine (HFR.out _ HBcur.out).mono ?_; rintro e w3 ⟨rfl, hb3⟩; have HBcur := Lib.hid (HBcur.out.trans (hb3.mono HBcur.out.size)); clear hb3))
        all_goals
          rename_i w3 _
          cases fb with
          | false =>
            go_wp2_with fail
            have HF : Hid (runN N l = (out, 17)) := Lib.hid (by rw [HRUN.out, HGO.out, HGR.out]; rfl)
            have HFR' : Hid (RowsR w3 (.slice A8 k8 c8) out) := Lib.hid ((HOUT.out.below HBcur.out).rows)
            exact bodyPost_ret (v := .tuple #[.slice A8 k8 c8, .int .i64 17]) (by simp [results, Try.results29, go_sem]) rfl ⟨_, by rw [HF.out], by rw [HF.out]; exact HFR'.out, HBw2.out.trans ((HB.out.trans (HBcur.out.mono HB.out.size)).mono HBw2.out.size)⟩
          | true =>
            have HRL : Hid (row.length = ni) := Lib.hid (by rw [← HNI.out]; exact frame_len HFB.out)
            have HB3 : Hid (Below wm.heap.size wm w3) := HBcur
            have hs3 : wm.heap.size ≤ w3.heap.size := HB3.out.size
            have hsm : w2.heap.size ≤ wm.heap.size := HB.out.size
            obtain ⟨q0, q1, q2, q3⟩ := HKS.out _ HB3.out
            have HN3 := Lib.hid ((HN2.out.below HB.out (Nat.le_refl _)).below HB3.out (Nat.le_refl _))
            have HR3 := Lib.hid (HRI.out.below HB3.out (Nat.le_refl _))
            have HW3 := Lib.hid (HWI.out.below HB3.out (Nat.le_refl _))
            have HO3 := Lib.hid ((HORD.out.below HB.out (Nat.le_refl _)).below HB3.out (Nat.le_refl _))
            have HOUT3 := Lib.hid (HOUT.out.below HB3.out)
            have HBx3 : Hid (Below w.heap.size w w3) := Lib.hid (HBw2.out.trans ((HB.out.trans (HB3.out.mono HB.out.size)).mono HBw2.out.size))
            have HB23 : Hid (Below w2.heap.size w2 w3) := Lib.hid (HB.out.trans (HB3.out.mono HB.out.size))
            have HX3 := Lib.hid (HXm.out.below HB3.out HXm.out.lt)
            have hmk := run_make_row' (P := Try.prog) 23 3 (.int .i64 0) 8 Try.underlying23 info3 rfl .i64 .i64 n (by omega) (by omega)
            have HT0 : Hid (∀ W, W = w3.alloc (.cells (madeCells #[.int .i64 0] n) 3) → W.ownsRow w3.heap.size 3 1 (.slice (some ⟨w3.heap.size, 0, none⟩) n n) n (intsOf (partN N row was 0).1) ∧ Below w3.heap.size w3 W) := Lib.hid (fun W hW => by
              have h1 := heap_alloc_new w3 (.cells (madeCells #[.int .i64 0] n) 3)
              subst hW
              refine ⟨own_at (xs := intsOf (partN N row was 0).1) ?_ (Nat.le_refl _) (by unfold intsOf; rw [List.length_map, part_len]; exact HN.out) (by unfold maxLen; omega), below_new _ _⟩
              rw [part_zero, HN.out, ← made_ints]; exact h1)
            clear HBcur HKS
            simp only [Bool.not_true]
            go_wp2_with fail
            go_loopw [12, 13] (fun v12 v13 wr => ∃ (k : Nat) (least : Int), k ≤ n ∧ v13 = .int .i64 (k : Int) ∧ v12 = .int .i64 least ∧ wr.ownsRow w3.heap.size 3 1 (.slice (some ⟨w3.heap.size, 0, none⟩) n n) n (intsOf (partN N row was k).1) ∧ least = (partN N row was k).2 ∧ Below w3.heap.size w3 wr) (fun v12 v13 _ => n - (intOf v13).toNat)
            case atStart => exact ⟨0, 0, Nat.zero_le _, rfl, rfl, (HT0.out _ rfl).1, by rw [part_zero], (HT0.out _ rfl).2⟩
            case round =>
              obtain ⟨k, least, hk, rfl, rfl, hv, hle, hb⟩ := hrel
              have HV := Lib.hid hv
              have HLE := Lib.hid hle
              have HBr := Lib.hid hb
              obtain ⟨wk, hwk⟩ : ∃ W, W = wr := ⟨_, rfl⟩
              subst hwk
              clear hv hle hb
              have hsk : w3.heap.size ≤ wk.heap.size := HBr.out.size
              by_cases hkn : k < n
              · obtain ⟨j, hj⟩ : ∃ j, (orderN N)[k]? = some j := ⟨_, List.getElem?_eq_getElem (by rw [HOL.out]; exact hkn)⟩
                have hjn := HORDN.out k j hj
                have hj2 : (natI (orderN N))[k]? = some (j : Int) := by unfold natI; rw [List.getElem?_map, hj]; rfl
                obtain ⟨g, o, rfl, hg, e0⟩ := ints_at (HO3.out.below HBr.out (Nat.le_refl _)) hj2
                have hxx := op_get (N := N) (i := j) (by rw [HN.out]; exact hjn)
                obtain ⟨g2, o2, rfl, hg2, d0, d1, d2, d3, d4⟩ := (HN3.out.below HBr.out (Nat.le_refl _)).1.at hxx
                have HPS : Hid (partN N row was (k + 1) = stepN N row was (partN N row was k) j) := Lib.hid (part_succ hj)
                have hmay := may_at HMAY.out (i := j) (by rw [HN.out]; exact hjn)
                rw [HN.out, HNI.out] at hmay
                obtain ⟨xx, hxx2⟩ : ∃ x, opAt N j = x := ⟨_, rfl⟩
                rw [hxx2] at d0 d1 d2 d3 d4 hmay
                have HVAL := Lib.hid (fun W (hW : Below wk.heap.size wk W) => dvalue_any W xx (.slice RB kr rd) (.slice (some ⟨w3.heap.size, 0, none⟩) n n) (.slice A9 k9 c9) row (partN N row was k).1 was n ni hmay ((HR3.out.below HBr.out (Nat.le_refl _)).below hW (Nat.le_refl _)) HRL.out
                  (by
                    have := Ints.of_own (l := (partN N row was k).1) (w := W) (v := .slice (some ⟨w3.heap.size, 0, none⟩) n n) (b := w3.heap.size) (by rw [part_len, HN.out]; exact own_below HV.out hW)
                    exact this) (by rw [part_len]; exact HN.out) ((HW3.out.below HBr.out (Nat.le_refl _)).below hW (Nat.le_refl _)) (by rw [HK9.out]; exact HK0.out))
                obtain ⟨p, hp⟩ : ∃ p, valN xx row (partN N row was k).1 was = p := ⟨_, rfl⟩
                rw [hp] at HVAL
                have HPN : Hid (partN N row was (k + 1) = ((partN N row was k).1.set j p.1, leastE least p.2)) := Lib.hid (by rw [HPS.out]; unfold stepN; rw [hxx2, hp, ← HLE.out])
                obtain ⟨xo, xa, xb, xc, xn⟩ := xx
                dsimp only at d0 d1 d2 d3 d4
                unfold opV at HVAL
                dsimp only at HVAL
                obtain ⟨u0, u1, u2⟩ := (HX3.out.below HBr.out HX3.out.lt).ats
                have HXk := Lib.hid (HX3.out.below HBr.out HX3.out.lt)
                have u3 : wk.cell? ⟨lg, lo + i, none⟩ = some (.slice RB kr rd) := (HBr.out.cell (by show lg < w3.heap.size; omega)).trans q3
                have HKS : Hid (∀ W, Below wk.heap.size wk W → W.cell? ⟨w.heap.size, 0, none⟩ = some (.slice (some ⟨g2, o2, none⟩) n c) ∧ W.cell? ⟨g, o + k, none⟩ = some (.int .i64 (j : Int)) ∧ W.cell? ⟨lg, lo + i, none⟩ = some (.slice RB kr rd) ∧
                    W.cell? ⟨g2, o2 + j * 5, none⟩ = some (.int .i64 xo) ∧ W.cell? ⟨g2, o2 + j * 5 + 1, none⟩ = some (.int .i64 xa) ∧ W.cell? ⟨g2, o2 + j * 5 + 2, none⟩ = some (.int .i64 xb) ∧ W.cell? ⟨g2, o2 + j * 5 + 3, none⟩ = some (.int .i64 xc) ∧ W.cell? ⟨g2, o2 + j * 5 + 4, none⟩ = some (.int .i64 xn)) := Lib.hid (fun W hW =>
                  ⟨(HXk.out.below hW HXk.out.lt).ats.1, (hW.cell hg).trans e0, (hW.cell (by show lg < wk.heap.size; omega)).trans u3, (hW.cell hg2).trans d0, (hW.cell hg2).trans d1, (hW.cell hg2).trans d2, (hW.cell hg2).trans d3, (hW.cell hg2).trans d4⟩)
                have HBcur : Hid (Below wk.heap.size wk wk.drew) := Lib.hid (Below.refl _ _).drew
                clear hj hj2 hxx hxx2 hp hmay e0 d0 d1 d2 d3 d4 u0 u1 u2 u3 HPS
                go_wp2_with fail
                go_region_held3 (fun W => W.cell? ⟨w.heap.size, 0, none⟩ = some (.slice (some ⟨g2, o2, none⟩) n c) ∧ W.cell? ⟨g, o + k, none⟩ = some (.int .i64 (j : Int)) ∧ W.cell? ⟨lg, lo + i, none⟩ = some (.slice RB kr rd) ∧
                    W.cell? ⟨g2, o2 + j * 5, none⟩ = some (.int .i64 xo) ∧ W.cell? ⟨g2, o2 + j * 5 + 1, none⟩ = some (.int .i64 xa) ∧ W.cell? ⟨g2, o2 + j * 5 + 2, none⟩ = some (.int .i64 xb) ∧ W.cell? ⟨g2, o2 + j * 5 + 3, none⟩ = some (.int .i64 xc) ∧ W.cell? ⟨g2, o2 + j * 5 + 4, none⟩ = some (.int .i64 xn))
                  (exact HKS.out _ HBcur.out)
                  (first | (go_at_call 60; with_reducible refine (HVAL.out _ HBcur.out).mono ?_; rintro e w5 ⟨rfl, hb5⟩; have HBcur := Lib.hid (HBcur.out.trans (hb5.mono HBcur.out.size)); clear hb5))
                all_goals
                  rename_i w5 _
                  obtain ⟨-, e0, -⟩ := HKS.out _ HBcur.out
                  have HV5 := Lib.hid (own_below HV.out HBcur.out)
                  have HB5 : Hid (Below w3.heap.size w3 w5) := Lib.hid (HBr.out.trans (HBcur.out.mono HBr.out.size))
                  obtain ⟨yo, hyo⟩ : ∃ y, (partN N row was k).1[j]? = some y := ⟨_, List.getElem?_eq_getElem (by rw [part_len, HN.out]; exact hjn)⟩
                  have ct := (HV5.out.cellAt j (by omega)).trans (intsOf_get _ j _ hyo)
                  have ft := HV5.out.frozenAt j
                  have hst := (HV5.out.stored j (.int .i64 p.1)).1
                  rw [← intsOf_set] at hst
                  have HST : Hid ((w5.setCell ⟨w3.heap.size, j, none⟩ (.int .i64 p.1)).ownsRow w3.heap.size 3 1 (.slice (some ⟨w3.heap.size, 0, none⟩) n n) n (intsOf (partN N row was (k + 1)).1)) := Lib.hid (by rw [HPN.out]; exact hst)
                  have HBS : Hid (Below w3.heap.size w3 (w5.setCell ⟨w3.heap.size, j, none⟩ (.int .i64 p.1))) := Lib.hid (HB5.out.setCell (p := ⟨w3.heap.size, j, none⟩) (Nat.le_refl _) _)
                  obtain ⟨b1, hb1⟩ : ∃ b, (p.2 != 0) = b := ⟨_, rfl⟩
                  obtain ⟨b2, hb2⟩ : ∃ b, (least == 0) = b := ⟨_, rfl⟩
                  obtain ⟨b3, hb3⟩ : ∃ b, decide (p.2 < least) = b := ⟨_, rfl⟩
                  have HLS : Hid ((partN N row was (k + 1)).2 = if (b1 && (b2 || b3)) = true then p.2 else least) := Lib.hid (by rw [HPN.out]; exact least_of hb1 hb2 hb3)
                  clear hyo hst HKS HVAL
                  cases b1 with
                  | false =>
                    go_wp2_with fail
                    go_roundw
                    case rel => exact ⟨k + 1, _, by omega, by go_num, rfl, HST.out, HLS.out.symm, HBS.out⟩
                    case measure => simp [intOf]; omega
                  | true =>
                    cases b2 with
                    | true =>
                      go_wp2_with fail
                      go_roundw
                      case rel => exact ⟨k + 1, _, by omega, by go_num, rfl, HST.out, HLS.out.symm, HBS.out⟩
                      case measure => simp [intOf]; omega
                    | false =>
                      cases b3 with
                      | true =>
                        go_wp2_with fail
                        go_roundw
                        case rel => exact ⟨k + 1, _, by omega, by go_num, rfl, HST.out, HLS.out.symm, HBS.out⟩
                        case measure => simp [intOf]; omega
                      | false =>
                        go_wp2_with fail
                        go_roundw
                        case rel => exact ⟨k + 1, _, by omega, by go_num, rfl, HST.out, HLS.out.symm, HBS.out⟩
                        case measure => simp [intOf]; omega
              · have hke : k = n := by omega
                subst hke
                have HI : Hid (partN N row was k = instN N row was) := Lib.hid (part_all HOL.out)
                by_cases hl0 : least ≠ 0
                · have hne : (least != 0) = true := by simpa using hl0
                  have HF : Hid (runN N l = (out, least)) := Lib.hid (by rw [HRUN.out, HGO.out, HGR.out, if_neg (by simp), ← HI.out, ← HLE.out, if_pos hl0])
                  have HFR' : Hid (RowsR wk (.slice A8 k8 c8) out) := Lib.hid ((HOUT3.out.below HBr.out).rows)
                  clear hmk
                  go_wp2_with fail
                  exact bodyPost_ret (v := .tuple #[.slice A8 k8 c8, .int .i64 least]) (by simp [results, Try.results29, go_sem]) rfl ⟨_, by rw [HF.out], by rw [HF.out]; exact HFR'.out, HBx3.out.trans (HBr.out.mono HBx3.out.size)⟩
                · have hl0 : least = 0 := by omega
                  subst hl0
                  have HG2 : Hid (goN N l [] [] = goN N (l.drop (i + 1)) (instN N row was).1 (out ++ [rowN N (instN N row was).1])) := Lib.hid (by rw [HGO.out, HGR.out, if_neg (by simp), ← HI.out, ← HLE.out, if_neg (by omega)])
                  rw [HI.out] at HV
                  obtain ⟨V, hV⟩ : ∃ V, (instN N row was).1 = V := ⟨_, rfl⟩
                  have HVL : Hid (V.length = k) := Lib.hid (by rw [← hV, inst_len]; exact HN.out)
                  rw [hV] at HV HG2
                  have HXk := Lib.hid (HX3.out.below HBr.out HX3.out.lt)
                  have HNk := Lib.hid (HN3.out.below HBr.out (Nat.le_refl _))
                  have HRT : Hid (∀ (q : Nat) (y : Int), N.roots[q]? = some y → 0 ≤ y ∧ y < (k : Int)) := Lib.hid (fun q y hq => by
                    have hm := HMAY.out
                    unfold mayN at hm
                    simp only [Bool.and_eq_true, List.all_eq_true] at hm
                    have := isOp_iff.1 (hm.2 y (List.mem_of_getElem? hq))
                    rw [HN.out] at this; exact this)
                  have HRW : Hid ((rowN N V).length = nr) := Lib.hid (by unfold rowN; rw [List.length_map]; exact HNR.out)
                  clear hV hmk hkn hk
                  obtain ⟨u0, u1, u2⟩ := HXk.out.ats
                  go_wp2_with fail
                  go_loopw [16, 17] (fun v16 v17 wr => ∃ (q : Nat) (A6 : Option Addr) (c6 : Nat), q ≤ nr ∧ v17 = .int .i64 (q : Int) ∧ v16 = .slice A6 q c6 ∧ wr.ownsRow wk.heap.size 3 1 (.slice A6 q c6) q (intsOf ((rowN N V).take q)) ∧ Below wk.heap.size wk wr) (fun v16 v17 _ => nr - (intOf v17).toNat)
                  case atStart => exact ⟨0, none, 0, Nat.zero_le _, rfl, rfl, by simp [intsOf]; exact World.ownsRow_nil _ _ _ _, Below.refl _ _⟩
                  case round =>
                    obtain ⟨q, A6, c6, hq, rfl, rfl, ho6, hb⟩ := hrel
                    have HO6 := Lib.hid ho6
                    have HBq := Lib.hid hb
                    have hsq : wk.heap.size ≤ wr.heap.size := hb.size
                    obtain ⟨t0, t1, t2⟩ := (HXk.out.below hb HXk.out.lt).ats
                    clear ho6 hb
                    by_cases hqn : q < nr
                    · obtain ⟨y, hy⟩ : ∃ y, N.roots[q]? = some y := ⟨_, List.getElem?_eq_getElem (by rw [HNR.out]; exact hqn)⟩
                      have hyb := HRT.out q y hy
                      obtain ⟨g, o, rfl, hg, e0⟩ := ints_at (HNk.out.2.1.below HBq.out (Nat.le_refl _)) hy
                      obtain ⟨jj, rfl, hjj⟩ := get_at0 (l := V) hyb.1 (by rw [HVL.out]; exact hyb.2)
                      have hjl : jj < k := by omega
                      have HVq := Lib.hid (own_below HV.out HBq.out)
                      have ct := (HVq.out.cellAt jj (by omega)).trans (intsOf_get _ jj _ hjj)
                      have HTK : Hid (intsOf ((rowN N V).take (q + 1)) = intsOf ((rowN N V).take q) ++ [.int .i64 (at0 V (jj : Int))]) := Lib.hid (by
                        have e : (rowN N V)[q]? = some (at0 V (jj : Int)) := by unfold rowN; rw [List.getElem?_map, hy]; rfl
                        rw [List.take_add_one, e]; exact ints_snoc _ _)
                      generalize at0 V (jj : Int) = z at ct HTK
                      clear hy hyb hjj
                      go_wp2_with (at_builtin; refine wpList_append_own_at _ rfl (.tmp 97) (.tmp 106) 23 rfl wk.heap.size 3 i0 (.int .i64 0) 1 8 Try.underlying23 hi0 hz0 hz1 hz2 rfl (by decide) _ _ _ rfl (HO6.out.alloc _) ⟨wr.heap.size, 0, none⟩ 1 1 [.int .i64 z] rfl rfl (cell_one_new _ _ _) ?b1 ?c1 ?d1 ?e1 ?_)
                      case b1 => first | rfl | (intro u hu; simp at hu; subst hu; rfl)
                      case c1 => unfold maxLen; omega
                      case d1 => omega
                      case e1 => first | omega | (simp; omega)
                      intro v' w7 hown7 hgrow7 _ hat7
                      have HO7 : Hid (w7.ownsRow wk.heap.size 3 1 v' (q + 1) (intsOf ((rowN N V).take (q + 1)))) := Lib.hid (by rw [HTK.out]; exact hown7)
                      have HB7 : Hid (Below wk.heap.size wk w7) := Lib.hid ((HBq.out.alloc hsq _).grown hgrow7 (by simp; omega) (fun k hk => (HO6.out.lt k hk).1))
                      obtain ⟨A7, c7, rfl⟩ : ∃ A c, v' = .slice A (q + 1) c := by
                        obtain ⟨-, h1 | ⟨g, cap, cur, e, -⟩⟩ := hown7
                        · omega
                        · exact ⟨_, _, e⟩
                      clear hown7 hgrow7 hat7
                      go_wp2_with fail
                      go_roundw
                      case rel => exact ⟨q + 1, A7, c7, by omega, by go_num, rfl, HO7.out, HB7.out⟩
                      case measure => simp [intOf]; omega
                    · have hqe : q = nr := by omega
                      subst hqe
                      have HOQ := Lib.hid ((HOUT3.out.below HBr.out).below HBq.out)
                      have HRO : Hid (wr.ownsRow w2.heap.size 3 1 (.slice A6 q c6) (rowN N V).length (intsOf (rowN N V))) := Lib.hid (by
                        have := own_base HO6.out (b' := w2.heap.size) (by omega)
                        rw [← HRW.out, List.take_length] at this
                        rw [← HRW.out]; exact this)
                      have HVq := Lib.hid (own_base (own_below HV.out HBq.out) (b' := w2.heap.size) (by omega))
                      have HB2r : Hid (Below w2.heap.size w2 wr) := Lib.hid ((HB23.out.trans (HBr.out.mono (by omega))).trans (HBq.out.mono (by omega)))
                      have hszr : w2.heap.size ≤ wr.heap.size := HB2r.out.size
                      have hown8 := HOQ.out.1
                      rw [HK8.out] at hown8
                      go_wp2_with (at_builtin; refine wpList_append_own_at _ rfl (.tmp 108) (.tmp 110) 46 rfl w2.heap.size 23 j0 (.slice none 0 0) 1 24 Try.underlying46 hj0 hy0 hy1 hy2 rfl (by decide) _ _ _ rfl (hown8.alloc _) ⟨wr.heap.size, 0, none⟩ 1 1 [.slice A6 q c6] rfl rfl (cell_one_new _ _ _) ?b1 ?c1 ?d1 ?e1 ?_)
                      case b1 => first | rfl | (intro u hu; simp at hu; subst hu; rfl)
                      case c1 => unfold maxLen; omega
                      case d1 => omega
                      case e1 => first | omega | (simp; omega)
                      intro v' w7 hown7 hgrow7 _ hat7
                      have HO7 : Hid (OutV w7 w2.heap.size v' (out ++ [rowN N V]) (vs ++ [.slice A6 q c6])) := Lib.hid (HOQ.out.snoc HRO.out _ hgrow7 (by rw [HK8.out]; exact hown7))
                      have HV7 : Hid (w7.ownsRow w2.heap.size 3 1 (.slice (some ⟨w3.heap.size, 0, none⟩) k k) k (intsOf V)) := Lib.hid (own_past HVq.out hown8 (by decide) _ hgrow7)
                      have HB7 : Hid (Below w2.heap.size w2 w7) := Lib.hid ((HB2r.out.alloc hszr _).grown hgrow7 (by simp; omega) (fun k hk => (hown8.lt k hk).1))
                      have HLO : Hid ((out ++ [rowN N V]).length = k8 + 1) := Lib.hid (by rw [List.length_append, HK8.out]; rfl)
                      obtain ⟨A7, c7, rfl⟩ : ∃ A c, v' = .slice A (k8 + 1) c := by
                        obtain ⟨-, h1 | ⟨g, cap, cur, e, -⟩⟩ := hown7
                        · omega
                        · exact ⟨_, _, e⟩
                      rw [← HLO.out] at HO7
                      clear hown7 hgrow7 hat7 hown8
                      go_wp2_with fail
                      go_roundw
                      case rel => exact ⟨i + 1, out ++ [rowN N V], vs ++ [.slice A6 q c6], V, A7, c7, some ⟨w3.heap.size, 0, none⟩, k, k, by omega, by go_num, by rw [HLO.out], rfl, HVL.out, HO7.out, HV7.out, .inr rfl, by rw [HLO.out]; omega, HB7.out, HG2.out⟩
                      case measure => simp [intOf]; omega
      · have him2 : i = m := by omega
        subst him2
        have HF : Hid (runN N l = (out, 0)) := Lib.hid (by rw [HRUN.out, HGO.out, ← HML.out, List.drop_length]; rfl)
        have HFR' : Hid (RowsR wm (.slice A8 k8 c8) out) := Lib.hid HOUT.out.rows
        go_wp2_with fail
        exact bodyPost_ret (v := .tuple #[.slice A8 k8 c8, .int .i64 0]) (by simp [results, Try.results29, go_sem]) rfl ⟨_, by rw [HF.out], by rw [HF.out]; exact HFR'.out, HBw2.out.trans (HB.out.mono HBw2.out.size)⟩
end Go.Proofs.Ytcphjehjdhgheaa.Nt
