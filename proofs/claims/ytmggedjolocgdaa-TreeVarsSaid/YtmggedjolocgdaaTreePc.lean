/- The function filled lays what is put in the places of an expression's nodes. Conditions: the expression is in order; what is put is read as lists of nodes. -/
import Derived.Test.YtmggedjolocgdaaTreePb
namespace Go.Proofs.Ytmggedjolocgdaa.Tr
open Go.ChangeShapes Go.WideShapes Go.ChangeAt Go.RowKit Go.Maps Go.WideMaps
set_option linter.unusedVariables false
set_option linter.unusedSimpArgs false

theorem fill_start {w w2 Wn : World} {P : Nd → List Nd} {l : List Nd} {G cap : Nat} (hb : Below w.heap.size w w2) (hown : w2.ownsRow w.heap.size 30 6 (.slice (some ⟨G, 0, none⟩) 0 cap) 0 [])
    (hW : Wn = (w2.alloc (.cells (madeCells #[.int .i64 0] l.length) 3)).alloc (.cells #[.slice (some ⟨w2.heap.size, 0, none⟩) l.length l.length] 27)) (hl : l.length ≤ maxLen) : FillRel w P l w2.heap.size 0 Wn (.slice (some ⟨G, 0, none⟩) 0 cap) := by
  have hs := hb.size
  subst hW
  refine ⟨Nat.zero_le _, hs, by simpa [fillF, ndsOf] using (hown.alloc _).alloc _, ?_, alloc_at _ _ _ (by simp), (hb.alloc hs _).alloc (by simp; omega) _⟩
  refine ⟨by simp [intsOf, fillF], .inr ⟨w2.heap.size, l.length, madeCells #[.int .i64 0] l.length, rfl, hs, ?_, Nat.le_refl _, hl, ?_, ?_⟩⟩
  · rw [Below.heap_alloc _ _ _ (by simp)]; exact heap_alloc_new _ _
  · have := congrArg List.length (made_ints l.length); simp [intsOf] at this ⊢; exact this
  · rw [made_ints]; simp [intsOf, fillF]
theorem fields_at (x : Nd) (l : List Nd) (k : Nat) (A R : List Int) (h : Good l k x) (hA : A.length = k) : (0 ≤ x.a → (A ++ R)[x.a.toNat]? = some (A.getD x.a.toNat 0)) ∧ (0 ≤ x.b → (A ++ R)[x.b.toNat]? = some (A.getD x.b.toNat 0)) ∧ (0 ≤ x.c → (A ++ R)[x.c.toNat]? = some (A.getD x.c.toNat 0)) := by
  have hf := fields_in x (kidsM x) h.bare
  have key : ∀ q : Int, q ∈ kidsM x → (A ++ R)[q.toNat]? = some (A.getD q.toNat 0) := fun q hq => by
    have := h.ahead q hq
    rw [List.getElem?_append_left (by omega), List.getD, List.getElem?_eq_getElem (by omega)]; rfl
  exact ⟨fun h0 => key _ (hf.1 (by omega)), fun h0 => key _ (hf.2.1 (by omega)), fun h0 => key _ (hf.2.2 (by omega))⟩

set_option maxRecDepth 100000 in
set_option maxHeartbeats 2000000 in
theorem filled_any (ev : Value) (l : List Nd) (b : Nat) (p1 p2 : Addr) (B m : Nat) (D : DataW Unit) (names : List Bytes) (pv : Value) (ps : List (List Nd)) (w : World) (hv : Nodes w ev l) (henv : PutEnv b p1 p2 B m D names pv ps w)
    (hg : ∀ i x, l[i]? = some x → Good l i x) (hsh : Short l) (hl : l.length ≤ 5000) (hr : roomOf (putP names ps) l ≤ 80000) :
    Calls Try.prog 50 #[ev, .func (.func 51) #[] #[.pointer (some p1), .pointer (some p2)]] w (NodesPost w (fillF (putP names ps) l).1) := by
  obtain ⟨P, hP⟩ : ∃ P, putP names ps = P := ⟨_, rfl⟩
  have HENV := Lib.hid henv
  have HPD := Lib.hid hP
  rw [hP] at hr ⊢
  obtain ⟨A, c, rfl, h1, h2, hA⟩ := hv
  unfold maxLen at h2
  have HA := Lib.hid hA
  have HG := Lib.hid hg
  have HSH := Lib.hid hsh
  have HS0 := Lib.hid (sumP_zero P l)
  have HSL := Lib.hid (sumP_le P l)
  obtain ⟨i1, hi', hz0', hz1', hz2'⟩ := info_parts info30
  have hmk := run_make_row' (P := Try.prog) 27 3 (.int .i64 0) 8 Try.underlying27 info3 rfl .i64 .i64 l.length (by omega) (by omega)
  clear hA henv hg hsh hP
  go_enter Try.func50, Try.ntmps50
  go_wp2
  go_loopw [5, 17] (fun ro i wr => ∃ k : Nat, k ≤ l.length ∧ i = .int .i64 k ∧ ro = .int .i64 ((l.length : Int) + (sumP P l k : Nat)) ∧ Below w.heap.size w wr) (fun _ i _ => l.length - (intOf i).toNat)
  case atStart => exact ⟨0, Nat.zero_le _, rfl, by rw [HS0.out]; simp, Below.refl _ _⟩
  case round =>
    obtain ⟨k, hk, rfl, rfl, hb⟩ := hrel
    have HB := Lib.hid hb
    have hs := hb.size
    have hsl := HSL.out k
    by_cases hlt : k < l.length
    · obtain ⟨x, hx⟩ : ∃ x, l[k]? = some x := ⟨_, List.getElem?_eq_getElem hlt⟩
      obtain ⟨g, o, rfl, hgl, a0, a1, a2, a3, a4, a5⟩ := HA.out k x hx
      have b0 := (hb.cell (p := ⟨g, o + k * 6, none⟩) hgl).trans a0
      have b1 := (hb.cell (p := ⟨g, o + k * 6 + 1, none⟩) hgl).trans a1
      have b2 := (hb.cell (p := ⟨g, o + k * 6 + 2, none⟩) hgl).trans a2
      have b3 := (hb.cell (p := ⟨g, o + k * 6 + 3, none⟩) hgl).trans a3
      have b4 := (hb.cell (p := ⟨g, o + k * 6 + 4, none⟩) hgl).trans a4
      have b5 := (hb.cell (p := ⟨g, o + k * 6 + 5, none⟩) hgl).trans a5
      have hnx := sumP_next P l k x hx
      have hsl2 := HSL.out (k + 1)
      have hpl : sumP P l k + (P x).length ≤ 80000 := by omega
      have HNX := Lib.hid hnx
      have hsx := HSH.out x (List.mem_of_getElem? hx)
      have HX := Lib.hid hx
      clear hx a0 a1 a2 a3 a4 a5 hb hnx hsl2
      go_wp2_with fail
      refine ((HENV.out.below (HB.out.alloc hs _)).put x hsx).mono ?_
      rintro r w3 ⟨u, rfl, hu, -, hb3⟩
      rw [HPD.out] at hu
      obtain ⟨A3, c3, rfl, y1, y2, _⟩ := hu
      unfold maxLen at y2
      have HB3 := Lib.hid ((HB.out.alloc hs _).trans (hb3.mono (by simp; omega)))
      clear hb3 b0 b1 b2 b3 b4 b5
      go_wp2
      refine ⟨⟨k + 1, by omega, by go_num, ?_, HB3.out⟩, by simp [intOf]; omega⟩
      rw [HNX.out]; go_num
    · have hkl : k = l.length := by omega
      subst hkl
      obtain ⟨S, hS⟩ : ∃ S, sumP P l l.length = S := ⟨_, rfl⟩
      rw [hS] at hsl ⊢
      clear hS hb
      have HSS := Lib.hid hr
      go_wp2_with (at_make; refine wpList_make_own _ rfl _ _ 23 rfl w.heap.size 30 i1 _ 6 Try.underlying23 hi' hz0' hz1' _ _ _ (l.length + S) rfl rfl ?n1 ?n2 ?n3 hs ?_)
      case n1 => omega
      case n2 => rw [hz2']; omega
      case n3 => unfold maxLen; omega
      intro w2 hown hgrow
      have hb2 := HB.out.grown hgrow hs (fun k hk => by simp at hk)
      have HB2 := Lib.hid hb2
      have HO2 := Lib.hid hown
      clear hown hgrow hb2
      obtain ⟨w0, rfl⟩ : ∃ w0 : World, w0 = wr := ⟨_, rfl⟩
      have HSTART : Hid (FillRel w P l w2.heap.size 0 ((w2.alloc (.cells (madeCells #[.int .i64 0] l.length) 3)).alloc (.cells #[.slice (some ⟨w2.heap.size, 0, none⟩) l.length l.length] 27)) (.slice (some ⟨w0.heap.size, 0, none⟩) 0 (l.length + S))) := Lib.hid (fill_start HB2.out HO2.out rfl (by unfold maxLen; omega))
      obtain ⟨H, hH⟩ : ∃ H, w2.heap.size = H := ⟨_, rfl⟩
      have HHH := Lib.hid hH
      rw [hH] at HSTART
      have hwH : w.heap.size ≤ H := by rw [← hH]; exact HB2.out.size
      clear hH
      go_wp2
      rw [HHH.out]
      go_loopw [8, 35] (fun s0 i wr => ∃ (k : Nat) (ov : Value), ov = s0 ∧ i = .int .i64 k ∧ FillRel w P l H k wr ov) (fun _ i _ => l.length - (intOf i).toNat)
      case atStart => exact ⟨0, _, rfl, rfl, HSTART.out⟩
      case round =>
        obtain ⟨k, ov, rfl, rfl, hrel⟩ := hrel
        have hk := hrel.le
        have HREL := Lib.hid hrel
        have hs := hrel.below.size
        have hvl := lt_of_block hrel.var
        have HB := Lib.hid hrel.below
        clear hrel
        by_cases hlt : k < l.length
        · obtain ⟨x, hx⟩ : ∃ x, l[k]? = some x := ⟨_, List.getElem?_eq_getElem hlt⟩
          obtain ⟨g, o, rfl, hgl, a0, a1, a2, a3, a4, a5⟩ := HA.out k x hx
          have b0 := (HB.out.cell (p := ⟨g, o + k * 6, none⟩) hgl).trans a0
          have b1 := (HB.out.cell (p := ⟨g, o + k * 6 + 1, none⟩) hgl).trans a1
          have b2 := (HB.out.cell (p := ⟨g, o + k * 6 + 2, none⟩) hgl).trans a2
          have b3 := (HB.out.cell (p := ⟨g, o + k * 6 + 3, none⟩) hgl).trans a3
          have b4 := (HB.out.cell (p := ⟨g, o + k * 6 + 4, none⟩) hgl).trans a4
          have b5 := (HB.out.cell (p := ⟨g, o + k * 6 + 5, none⟩) hgl).trans a5
          have hsx := HSH.out x (List.mem_of_getElem? hx)
          have HX := Lib.hid hx
          have HGX := Lib.hid (HG.out k x hx)
          have hst := fill_step_len P l k x hx
          have HNX := Lib.hid (fillF_next P l k x hx)
          clear hx a0 a1 a2 a3 a4 a5
          go_wp2_with fail
          refine ((HENV.out.below (HB.out.alloc hs _)).put x hsx).mono ?_
          rintro r w3 ⟨u, rfl, hu, hul, hb3⟩
          rw [HPD.out] at hu hul
          have hs3 := hb3.size
          simp at hs3
          have HB3 := Lib.hid ((below_new wr (.cells #[.int .i64 x.op, .int .i64 x.a, .int .i64 x.b, .int .i64 x.c, .int .i64 x.n, .string (str x.name)] 30)).trans (hb3.mono (by simp)))
          have HNC := Lib.hid (show ∀ j, w3.cell? ⟨wr.heap.size, j, none⟩ = (#[Value.int .i64 x.op, .int .i64 x.a, .int .i64 x.b, .int .i64 x.c, .int .i64 x.n, .string (str x.name)] : Array Value)[j]? from fun j => by
            rw [hb3.cell (p := ⟨wr.heap.size, j, none⟩) (by simp)]
            have h := heap_alloc_new wr (.cells #[Value.int .i64 x.op, .int .i64 x.a, .int .i64 x.b, .int .i64 x.c, .int .i64 x.n, .string (str x.name)] 30)
            unfold World.cell?; rw [h]; rfl)
          have HO3 := Lib.hid (own_below HREL.out.own HB3.out)
          have HU := Lib.hid hu
          have HUL := Lib.hid hul
          obtain ⟨A3, c3, rfl, y1, y2, _⟩ := hu
          unfold maxLen at y2
          clear hb3 hul b0 b1 b2 b3 b4 b5
          by_cases hp : P x = []
          · have hp0 : (P x).length = 0 := by rw [hp]; rfl
            have HP0 := Lib.hid hp
            rw [if_pos hp] at hst
            rw [hp0]
            clear hp
            have hal : (fillF P (l.take k)).2.length = k := by rw [fillF_at, List.length_take]; omega
            have hint : Ints w3 (.slice (some ⟨H, 0, none⟩) l.length l.length) ((fillF P (l.take k)).2 ++ List.replicate (l.length - k) (0 : Int)) := by
              have h5 := own_below HREL.out.row HB3.out
              have h6 : ((fillF P (l.take k)).2 ++ List.replicate (l.length - k) (0 : Int)).length = l.length := by rw [List.length_append, hal, List.length_replicate]; omega
              have h7 : w3.ownsRow w.heap.size 3 1 (.slice (some ⟨H, 0, none⟩) l.length l.length) ((fillF P (l.take k)).2 ++ List.replicate (l.length - k) (0 : Int)).length (intsOf ((fillF P (l.take k)).2 ++ List.replicate (l.length - k) (0 : Int))) := by rw [h6]; exact h5
              exact Ints.of_own h7
            have HINT := Lib.hid hint
            have HV3 := Lib.hid (cell_of_one ((HB3.out.block _ hvl).trans HREL.out.var))
            obtain ⟨tf, htf⟩ : ∃ tf : Int → Int, tf = fun q => (fillF P (l.take k)).2.getD q.toNat 0 := ⟨_, rfl⟩
            have HTF := Lib.hid htf
            have HFA : Hid ((0 ≤ x.a → ((fillF P (l.take k)).2 ++ List.replicate (l.length - k) 0)[x.a.toNat]? = some (tf x.a)) ∧ (0 ≤ x.b → ((fillF P (l.take k)).2 ++ List.replicate (l.length - k) 0)[x.b.toNat]? = some (tf x.b)) ∧ (0 ≤ x.c → ((fillF P (l.take k)).2 ++ List.replicate (l.length - k) 0)[x.c.toNat]? = some (tf x.c))) := Lib.hid (by
              rw [htf]; exact fields_at x l k _ _ HGX.out hal)
            have HMV := Lib.hid (moved_mk x (kidsM x) tf HGX.out.bare (fun q hq => (HGX.out.ahead q hq).1))
            have n0 := HNC.out 0
            have n1 := HNC.out 1
            have n2 := HNC.out 2
            have n3 := HNC.out 3
            have n4 := HNC.out 4
            have n5 := HNC.out 5
            simp at n0 n1 n2 n3 n4 n5
            clear hint htf hal
            go_wp2_with fail
            refine (moved56 _ _ _ _ _ _ ⟨H + 1, 0, none⟩ _ _ tf _ HV3.out HINT.out HFA.out.1 HFA.out.2.1 HFA.out.2.2).mono ?_
            rintro r w4 ⟨rfl, hb4⟩
            have hs4 := hb4.size
            have HB4 := Lib.hid (HB3.out.trans (hb4.mono (by omega)))
            have HO4 := Lib.hid (own_below HO3.out hb4)
            obtain ⟨N, hN⟩ : ∃ N, (fillF P (l.take k)).1.length = N := ⟨_, rfl⟩
            have HN := Lib.hid hN
            have hNm : N + 1 ≤ 80000 := by omega
            obtain ⟨A4, c4, rfl, x1, x2, _⟩ := Nodes.of_own HREL.out.own
            rw [hN] at x1 HO4 HREL
            rw [hN]
            unfold maxLen at x2
            clear hb4 hN n0 n1 n2 n3 n4 n5
            go_wp2_with (at_builtin; refine wpList_append_own _ rfl (.tmp 49) (.tmp 53) 23 rfl w.heap.size 30 i1 _ 6 56 Try.underlying23 hi' hz0' hz1' hz2' rfl (by decide) _ N _ rfl (HO4.out.alloc _) ⟨w4.heap.size, 0, none⟩ 1 1 (ndCells ⟨x.op, toM tf x.a, toM tf x.b, toM tf x.c, x.n, x.name⟩) rfl rfl ?a6 ?b6 ?c6 ?d6 ?e6 ?_)
            case a6 => exact World.news_of_block (t := 30) (fr := (0, 0)) (heap_alloc_new _ _)
            case b6 => simp [ndCells, Value.oneCell']
            case c6 => unfold maxLen; omega
            case d6 => omega
            case e6 => simp; omega
            intro v' w5 hown5 hg5 _
            have HE := Lib.hid (show (fillF P (l.take (k + 1))).1 = (fillF P (l.take k)).1 ++ [⟨x.op, toM tf x.a, toM tf x.b, toM tf x.c, x.n, x.name⟩] by rw [HNX.out, HMV.out]; unfold fillStep; simp only [HP0.out, if_true]; rw [HTF.out])
            have hmid := HREL.out.mid (N := N + 1) (HB4.out.alloc (by omega) _) hg5 (by rw [HE.out, List.length_append, HN.out]; rfl) (by rw [HE.out, nds_snoc]; exact hown5)
            have HMID := Lib.hid hmid
            have q9 := cell_of_one hmid.var
            obtain ⟨old, hold⟩ : ∃ old, ((fillF P (l.take k)).2 ++ List.replicate (l.length - k) (0 : Int))[k]? = some old := ⟨_, List.getElem?_eq_getElem (by rw [List.length_append, fillF_at, List.length_take, List.length_replicate]; omega)⟩
            have ci := (hmid.row.cellAt k (by omega)).trans (intsOf_get _ _ _ hold)
            have fi := hmid.row.frozenAt k
            obtain ⟨A5, c5, hv5, x3, x4, _⟩ := Nodes.of_own (l := (fillF P (l.take (k + 1))).1) (by rw [hmid.len]; exact hmid.own)
            rw [hmid.len] at hv5 x3
            unfold maxLen at x4
            subst hv5
            clear hown5 hg5 hmid hold
            go_wp2
            have R := Lib.hid (HMID.out.step HX.out hwH)
            have e1 : ((N + 1 : Nat) : Int) - 1 = (N : Int) := by omega
            rw [e1] at R
            refine ⟨⟨k + 1, _, rfl, by go_num, R.out⟩, by simp [intOf]; omega⟩
          · have hp0 : 0 < (P x).length := List.length_pos_iff.2 hp
            rw [if_neg hp] at hst
            have HP0 := Lib.hid hp
            clear hp
            go_wp2_with fail
            refine (laid_any ov _ (fillF P (l.take k)).1 (P x) w.heap.size _ HO3.out (by omega) HU.out (fun h g o n c hh => Nat.lt_of_lt_of_le (HUL.out h g o n c hh) HENV.out.base) (by omega)).mono ?_
            rintro r w4 ⟨ov4, rfl, hown4, hg4, -⟩
            obtain ⟨A4, c4, rfl, x1, x2, _⟩ := Nodes.of_own hown4
            obtain ⟨N, hN⟩ : ∃ N, ((fillF P (l.take k)).1 ++ (P x).map (onNd ((fillF P (l.take k)).1.length : Int))).length = N := ⟨_, rfl⟩
            have hNm : N ≤ 80000 := by rw [← hN, List.length_append, List.length_map]; omega
            have HN := Lib.hid hN
            rw [hN] at hown4 x1 ⊢
            unfold maxLen at x2
            have HE := Lib.hid (show (fillF P (l.take (k + 1))).1 = (fillF P (l.take k)).1 ++ (P x).map (onNd ((fillF P (l.take k)).1.length : Int)) by rw [HNX.out]; unfold fillStep; simp only [HP0.out, if_false]; rfl)
            have hmid := HREL.out.mid (N := N) HB3.out hg4 (by rw [HE.out]; exact HN.out) (by rw [HE.out]; exact hown4)
            have HMID := Lib.hid hmid
            have q9 := cell_of_one hmid.var
            obtain ⟨old, hold⟩ : ∃ old, ((fillF P (l.take k)).2 ++ List.replicate (l.length - k) (0 : Int))[k]? = some old := ⟨_, List.getElem?_eq_getElem (by rw [List.length_append, fillF_at, List.length_take, List.length_replicate]; omega)⟩
            have ci := (hmid.row.cellAt k (by omega)).trans (intsOf_get _ _ _ hold)
            have fi := hmid.row.frozenAt k
            clear hown4 hg4 hN hmid hold
            go_wp2
            have R := Lib.hid (HMID.out.step HX.out hwH)
            refine ⟨⟨k + 1, _, rfl, by go_num, R.out⟩, by simp [intOf]; omega⟩
        · have hkl : k = l.length := by omega
          subst hkl
          go_wp2
          go_ret
          have h5 := HREL.out.own
          rw [List.take_length] at h5
          exact ⟨_, rfl, h5, HB.out⟩
end Go.Proofs.Ytmggedjolocgdaa.Tr
