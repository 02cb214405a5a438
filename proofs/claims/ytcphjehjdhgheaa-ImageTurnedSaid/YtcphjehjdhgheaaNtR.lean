/- The document's Is and Ends of a net, of layer 15. Conditions: the net has at most 1000 operators. New numbers for old ones; the copy of a row. Conditions: none. -/
import Derived.Test.YtcphjehjdhgheaaNtN
import Derived.Test.YtcphjehjdhgheaaNtI
import Derived.Test.YtcphjehjdhgheaaNtP
namespace Go.Proofs.Ytcphjehjdhgheaa.Nt
open Go.ChangeShapes Go.WideShapes Go.ChangeAt Go.RowKit Go.Proofs.Ytcphjehjdhgheaa.Tr
set_option linter.unusedVariables false
set_option linter.unusedSimpArgs false

theorem inOrd_bad {N : Net} {i k : Nat} (hi : i < N.ops.length) (hk : k ∈ ndN N i) (h : i ≤ k) : inOrdB N = false := by
  cases hb : inOrdB N with
  | false => rfl
  | true => have := in_ord.1 hb i hi k hk; omega
set_option maxRecDepth 100000 in
set_option maxHeartbeats 4000000 in
theorem eis_any (w : World) (ov rv iv : Value) (N : Net) (h : NetR w ov rv iv N) : Calls Try.prog 25 #[.agg #[ov, rv, iv]] w (fun e w' => e = .returned (.bool (isN N)) ∧ Below w.heap.size w w') := by
  have HH := Lib.hid h
  obtain ⟨A, c, rfl, z1, z2⟩ := h.1.form
  obtain ⟨n, hn⟩ : ∃ L, N.ops.length = L := ⟨_, rfl⟩
  have HN := Lib.hid hn
  have H1 := Lib.hid h.1
  rw [hn] at HH H1 z1 ⊢
  unfold maxLen at z2
  obtain ⟨w1, hw1⟩ : ∃ W, w.alloc (.cells #[.slice A n c, rv, iv] 25) = W := ⟨_, rfl⟩
  have HW1 := Lib.hid hw1
  have HB1 : Hid (Below w.heap.size w w1) := Lib.hid (by rw [← hw1]; exact below_new _ _)
  have HX1 : Hid (NetBox w1 w.heap.size 25 (.slice A n c) rv iv) := Lib.hid (by rw [← hw1]; exact box_new _ _ _ _ _)
  have HMA := Lib.hid (dcheck_any w1 (.slice A n c) rv iv N (HH.out.below HB1.out (Nat.le_refl _)))
  obtain ⟨C, hC⟩ : ∃ b, checkN N = b := ⟨_, rfl⟩
  rw [hC] at HMA
  have HC := Lib.hid hC
  obtain ⟨p0, p1, p2⟩ := HX1.out.ats
  clear h hw1 hC hn
  go_enter Try.func25, Try.ntmps25
  go_wp2_with fail
  rw [HW1.out]
  go_wp2_with fail
  refine HMA.out.mono ?_
  rintro e w2 ⟨rfl, hb2⟩
  have HB2 := Lib.hid hb2
  have HX2 := Lib.hid (HX1.out.below hb2 HX1.out.lt)
  have HB02 := Lib.hid (HB1.out.trans (hb2.mono HB1.out.size))
  obtain ⟨q0, q1, q2⟩ := HX2.out.ats
  clear hb2
  by_cases h0 : C = 0
  case neg =>
    have hne : (C != 0) = true := by simpa using h0
    have HI : Hid (isN N = false) := Lib.hid (by unfold isN; rw [HC.out]; simp [h0])
    go_wp2
    go_ret
    exact ⟨ret_bool HI.out.symm, HB02.out⟩
  subst h0
  have HM : Hid (mayN N = true) := Lib.hid (check_ok.1 HC.out).1
  have HIS : Hid (isN N = inOrdB N) := Lib.hid (by unfold isN; rw [HC.out]; simp)
  have hbig : n ≤ 100000 := by
    have hm := HM.out
    unfold mayN at hm
    simp only [Bool.and_eq_true] at hm
    have := of_decide_eq_true hm.1.1; rw [HN.out] at this; exact this
  go_wp2_with fail
  go_loopw [3] (fun vi wr => ∃ i : Nat, i ≤ n ∧ vi = .int .i64 (i : Int) ∧ Below w2.heap.size w2 wr ∧ ∀ i', i' < i → ∀ k ∈ ndN N i', k < i') (fun vi _ => n - (intOf vi).toNat)
  case atStart => exact ⟨0, Nat.zero_le _, rfl, Below.refl _ _, fun i' h => by omega⟩
  case round =>
    obtain ⟨i, hi, rfl, hb, hall⟩ := hrel
    have HB := Lib.hid hb
    have HALL := Lib.hid hall
    obtain ⟨y0, -, -⟩ := (HX2.out.below hb HX2.out.lt).ats
    clear hb hall
    by_cases hin : i < n
    · have hxx := op_get (N := N) (i := i) (by rw [HN.out]; exact hin)
      obtain ⟨g, o, rfl, hg, d0, d1, d2, d3, d4⟩ := ((H1.out.below HB02.out (Nat.le_refl _)).below HB.out (Nat.le_refl _)).at hxx
      have hkid := (may_flds (may_at HM.out (i := i) (by rw [HN.out]; exact hin))).1
      have HNE := Lib.hid (dOpds_any wr (opAt N i) hkid)
      have HCAST := Lib.hid (nd_cast HM.out (i := i) (by rw [HN.out]; exact hin))
      obtain ⟨xx, hxx2⟩ : ∃ x, opAt N i = x := ⟨_, rfl⟩
      rw [hxx2] at d0 d1 d2 d3 d4 HNE HCAST
      obtain ⟨xo, xa, xb, xc, xn⟩ := xx
      unfold opV at HNE
      dsimp only at d0 d1 d2 d3 d4 HNE
      clear hxx hkid hxx2
      go_wp2_with fail
      refine HNE.out.mono ?_
      rintro e w3 ⟨lv, rfl, hi3, hb3, hn3⟩
      have HI3 := Lib.hid hi3
      have HB3 := Lib.hid (HB.out.trans (hb3.mono HB.out.size))
      obtain ⟨A4, c4, rfl, z3, z4⟩ := ints_form hi3
      obtain ⟨L, hL⟩ : ∃ L, (needI ⟨xo, xa, xb, xc, xn⟩).length = L := ⟨_, rfl⟩
      rw [hL] at HI3 z3 ⊢
      have HL : Hid ((ndN N i).length = L) := Lib.hid (by rw [← hL, ← HCAST.out, List.length_map])
      unfold maxLen at z4
      clear hi3 hb3 hn3 hL
      go_wp2_with fail
      go_loopw [5] (fun vk wk => ∃ k : Nat, k ≤ L ∧ vk = .int .i64 (k : Int) ∧ wk = w3 ∧ ∀ k' y, k' < k → (ndN N i)[k']? = some y → y < i) (fun vk _ => L - (intOf vk).toNat)
      case atStart => exact ⟨0, Nat.zero_le _, rfl, rfl, fun k' y h => by omega⟩
      case round =>
        obtain ⟨k, hk, rfl, rfl, hkk⟩ := hrel
        have HKK := Lib.hid hkk
        clear hkk
        by_cases hkl : k < L
        · obtain ⟨y, hy⟩ : ∃ y, (ndN N i)[k]? = some y := ⟨_, List.getElem?_eq_getElem (by rw [HL.out]; exact hkl)⟩
          have hy2 : (needI ⟨xo, xa, xb, xc, xn⟩)[k]? = some (y : Int) := by rw [← HCAST.out, List.getElem?_map, hy]; rfl
          obtain ⟨g2, o2, rfl, hg2, e0⟩ := ints_at HI3.out hy2
          have HY := Lib.hid hy
          clear hy hy2
          by_cases hyi : y < i
          · have hd : decide ((i : Int) ≤ (y : Int)) = false := decide_eq_false (by omega)
            have HK2 : Hid (∀ k' y, k' < k + 1 → (ndN N i)[k']? = some y → y < i) := Lib.hid (fun k' y' hk' hy' => by
              by_cases e : k' = k
              · subst e; rw [HY.out] at hy'; injection hy' with hy'; omega
              · exact HKK.out k' y' (by omega) hy')
            go_wp2_with fail
            exact ⟨⟨k + 1, by omega, by go_num, by first | rfl | trivial, HK2.out⟩, by simp [intOf]; omega⟩
          · have hd : decide ((i : Int) ≤ (y : Int)) = true := decide_eq_true (by omega)
            have HI : Hid (isN N = false) := Lib.hid (by rw [HIS.out]; exact inOrd_bad (by rw [HN.out]; exact hin) (List.mem_of_getElem? HY.out) (by omega))
            go_wp2_with fail
            go_ret
            exact ⟨ret_bool HI.out.symm, HB02.out.trans (HB3.out.mono HB02.out.size)⟩
        · have HA2 : Hid (∀ i', i' < i + 1 → ∀ k ∈ ndN N i', k < i') := Lib.hid (fun i' hi' k' hk' => by
            by_cases e : i' = i
            · subst e
              obtain ⟨j, hj, ej⟩ := List.mem_iff_getElem.1 hk'
              exact HKK.out j k' (by rw [HL.out] at hj; omega) (by rw [List.getElem?_eq_getElem hj, ej])
            · exact HALL.out i' (by omega) k' hk')
          go_wp2_with fail
          exact ⟨⟨i + 1, by omega, by go_num, HB3.out, HA2.out⟩, by simp [intOf]; omega⟩
    · have HI : Hid (isN N = true) := Lib.hid (by rw [HIS.out]; exact in_ord.2 (fun i' hi' => HALL.out i' (by rw [HN.out] at hi'; omega)))
      go_wp2_with fail
      go_ret
      exact ⟨ret_bool HI.out.symm, HB02.out.trans (HB.out.mono HB02.out.size)⟩

/-! ### Ends -/
/-- The ends so far: m operators, and k of those that the next one needs. -/
def endR (N : Net) (m k : Nat) : List Int := (List.range N.ops.length).map fun j => if j ∈ (ndN N m).take k then (m : Int) else lastTo N m j
theorem endR_len (N : Net) (m k : Nat) : (endR N m k).length = N.ops.length := by unfold endR; simp
theorem endR_zero (N : Net) : endR N 0 0 = List.replicate N.ops.length (-1) := by
  unfold endR
  refine List.ext_getElem? (fun j => ?_)
  rw [List.getElem?_map, List.getElem?_replicate]
  by_cases hj : j < N.ops.length
  · rw [List.getElem?_range hj, if_pos hj]; simp [last_zero]
  · rw [List.getElem?_eq_none (by simpa using hj), if_neg hj]; rfl
theorem endR_set {N : Net} {m k y : Nat} (hy : (ndN N m)[k]? = some y) : (endR N m k).set y (m : Int) = endR N m (k + 1) := by
  refine List.ext_getElem? (fun j => ?_)
  rw [List.getElem?_set, endR_len]
  unfold endR
  rw [List.getElem?_map, List.getElem?_map]
  by_cases hj : j < N.ops.length
  · rw [List.getElem?_range hj]
    by_cases e : y = j
    · subst e
      rw [if_pos rfl, if_pos hj]
      simp [List.take_add_one, hy]
    · rw [if_neg e]
      have : (j ∈ (ndN N m).take (k + 1)) ↔ j ∈ (ndN N m).take k := by
        rw [List.take_add_one, hy, List.mem_append]; simp; exact fun h => absurd h.symm e
      simp only [Option.map_some, this]
  · rw [List.getElem?_eq_none (by simpa using hj)]
    by_cases e : y = j
    · rw [if_pos e, if_neg (by omega)]; rfl
    · rw [if_neg e]; rfl
theorem endR_next (N : Net) (m : Nat) {k : Nat} (hk : k = (ndN N m).length) : endR N m k = endR N (m + 1) 0 := by
  unfold endR
  rw [hk, List.take_length]
  refine List.map_congr_left (fun j hj => ?_)
  rw [last_succ]; simp
theorem endR_all (N : Net) {m : Nat} (hm : m = N.ops.length) : endR N m 0 = endsOf N := by
  unfold endR endsOf
  subst hm
  refine List.map_congr_left (fun j hj => ?_)
  simp
theorem endR_get {N : Net} {m k j : Nat} (hj : j < N.ops.length) : ∃ x, (endR N m k)[j]? = some x := ⟨_, List.getElem?_eq_getElem (by rw [endR_len]; exact hj)⟩
theorem rep_snoc (n : Nat) (x : Int) : List.replicate (n + 1) x = List.replicate n x ++ [x] := List.replicate_succ'
set_option maxRecDepth 100000 in
set_option maxHeartbeats 8000000 in
theorem eends_any (w : World) (ov rv iv : Value) (N : Net) (h : NetR w ov rv iv N) : Calls Try.prog 27 #[.agg #[ov, rv, iv]] w (fun e w' => ∃ v, e = .returned v ∧ w'.ownsRow w.heap.size 3 1 v (endsN N).length (intsOf (endsN N)) ∧ Below w.heap.size w w') := by
  obtain ⟨i0, hi0, hz0, hz1, hz2⟩ := info_parts info3
  have HH := Lib.hid h
  obtain ⟨A, c, rfl, z1, z2⟩ := h.1.form
  obtain ⟨n, hn⟩ : ∃ L, N.ops.length = L := ⟨_, rfl⟩
  have HN := Lib.hid hn
  have H1 := Lib.hid h.1
  rw [hn] at HH H1 z1 ⊢
  unfold maxLen at z2
  obtain ⟨w1, hw1⟩ : ∃ W, w.alloc (.cells #[.slice A n c, rv, iv] 25) = W := ⟨_, rfl⟩
  have HW1 := Lib.hid hw1
  have HB1 : Hid (Below w.heap.size w w1) := Lib.hid (by rw [← hw1]; exact below_new _ _)
  have HX1 : Hid (NetBox w1 w.heap.size 25 (.slice A n c) rv iv) := Lib.hid (by rw [← hw1]; exact box_new _ _ _ _ _)
  have HMA := Lib.hid (eis_any w1 (.slice A n c) rv iv N (HH.out.below HB1.out (Nat.le_refl _)))
  obtain ⟨C, hC⟩ : ∃ b, isN N = b := ⟨_, rfl⟩
  rw [hC] at HMA
  have HC := Lib.hid hC
  obtain ⟨p0, p1, p2⟩ := HX1.out.ats
  clear h hw1 hC hn
  go_enter Try.func27, Try.ntmps27
  go_wp2_with fail
  rw [HW1.out]
  go_wp2_with fail
  refine HMA.out.mono ?_
  rintro e w2 ⟨rfl, hb2⟩
  have HB2 := Lib.hid hb2
  have HX2 := Lib.hid (HX1.out.below hb2 HX1.out.lt)
  have HB02 := Lib.hid (HB1.out.trans (hb2.mono HB1.out.size))
  obtain ⟨q0, q1, q2⟩ := HX2.out.ats
  clear hb2
  cases C with
  | false =>
    have HE : Hid (endsN N = []) := Lib.hid (by unfold endsN; rw [HC.out]; rfl)
    go_wp2
    go_ret
    exact ⟨_, rfl, by rw [HE.out]; exact World.ownsRow_nil _ _ _ _, HB02.out⟩
  | true =>
    have hck : checkN N = 0 := by
      have := HC.out
      unfold isN at this
      simp only [Bool.and_eq_true] at this
      simpa using this.1
    have HM : Hid (mayN N = true) := Lib.hid (check_ok.1 hck).1
    have HE : Hid (endsN N = endsOf N) := Lib.hid (by unfold endsN; rw [HC.out]; rfl)
    have hbig : n ≤ 100000 := by
      have hm := HM.out
      unfold mayN at hm
      simp only [Bool.and_eq_true] at hm
      have := of_decide_eq_true hm.1.1; rw [HN.out] at this; exact this
    clear hck
    go_wp2_with fail
    go_loopw [3, 4] (fun ov vi wr => ∃ (i : Nat) (A2 : Option Addr) (c2 : Nat), i ≤ n ∧ vi = .int .i64 (i : Int) ∧ ov = .slice A2 i c2 ∧ wr.ownsRow w2.heap.size 3 1 (.slice A2 i c2) i (intsOf (List.replicate i (-1))) ∧ Below w2.heap.size w2 wr) (fun ov vi _ => n - (intOf vi).toNat)
    case atStart => exact ⟨0, none, 0, Nat.zero_le _, rfl, rfl, World.ownsRow_nil _ _ _ _, Below.refl _ _⟩
    case round =>
      obtain ⟨i, A2, c2, hi, rfl, rfl, ho, hb⟩ := hrel
      have HO := Lib.hid ho
      have HB := Lib.hid hb
      obtain ⟨y0, -, -⟩ := (HX2.out.below hb HX2.out.lt).ats
      have hszr := hb.size
      clear ho hb
      by_cases hin : i < n
      · go_wp2_with (at_builtin; refine wpList_append_own_at _ rfl (.tmp 18) (.tmp 19) 23 rfl w2.heap.size 3 i0 (.int .i64 0) 1 8 Try.underlying23 hi0 hz0 hz1 hz2 rfl (by decide) _ _ _ rfl (HO.out.alloc _) ⟨wr.heap.size, 0, none⟩ 1 1 [.int .i64 (-1)] rfl rfl (cell_one_new _ _ _) ?b1 ?c1 ?d1 ?e1 ?_)
        case b1 => first | rfl | (intro u hu; simp at hu; subst hu; rfl)
        case c1 => unfold maxLen; omega
        case d1 => omega
        case e1 => first | omega | (simp; omega)
        intro v' w7 hown7 hgrow7 _ hat7
        have HO7 : Hid (w7.ownsRow w2.heap.size 3 1 v' (i + 1) (intsOf (List.replicate (i + 1) (-1)))) := Lib.hid (by rw [rep_snoc, ints_snoc]; exact hown7)
        have HB7 : Hid (Below w2.heap.size w2 w7) := Lib.hid ((HB.out.alloc hszr _).grown hgrow7 (by simp; omega) (fun k hk => (HO.out.lt k hk).1))
        obtain ⟨A3, c3, rfl⟩ : ∃ A c, v' = .slice A (i + 1) c := by
          obtain ⟨-, h1 | ⟨g, cap, cur, e, -⟩⟩ := hown7
          · omega
          · exact ⟨_, _, e⟩
        clear hown7 hgrow7 hat7
        go_wp2_with fail
        exact ⟨⟨i + 1, A3, c3, by omega, by go_num, rfl, HO7.out, HB7.out⟩, by simp [intOf]; omega⟩
      · have hie : i = n := by omega
        subst hie
        have HO0 : Hid (wr.ownsRow w2.heap.size 3 1 (.slice A2 i c2) i (intsOf (endR N 0 0))) := Lib.hid (by rw [endR_zero, HN.out]; exact HO.out)
        obtain ⟨wm, hwm⟩ : ∃ W, W = wr := ⟨_, rfl⟩
        subst hwm
        clear hin hi
        go_wp2_with fail
        go_loopw [5] (fun vm wr => ∃ m : Nat, m ≤ i ∧ vm = .int .i64 (m : Int) ∧ wr.ownsRow w2.heap.size 3 1 (.slice A2 i c2) i (intsOf (endR N m 0)) ∧ Below w2.heap.size w2 wr) (fun vm _ => i - (intOf vm).toNat)
        case atStart => exact ⟨0, Nat.zero_le _, rfl, HO0.out, HB.out⟩
        case round =>
          obtain ⟨m, hm, rfl, ho, hb⟩ := hrel
          have HOm := Lib.hid ho
          have HBm := Lib.hid hb
          obtain ⟨y0, -, -⟩ := (HX2.out.below hb HX2.out.lt).ats
          clear ho hb
          by_cases hml : m < i
          · have hxx := op_get (N := N) (i := m) (by rw [HN.out]; exact hml)
            obtain ⟨g, o, rfl, hg, d0, d1, d2, d3, d4⟩ := ((H1.out.below HB02.out (Nat.le_refl _)).below HBm.out (Nat.le_refl _)).at hxx
            have hmay := may_at HM.out (i := m) (by rw [HN.out]; exact hml)
            have HNE := Lib.hid (dOpds_any wr (opAt N m) (may_flds hmay).1)
            have HCAST := Lib.hid (nd_cast HM.out (i := m) (by rw [HN.out]; exact hml))
            have HLT : Hid (∀ k ∈ ndN N m, k < i) := Lib.hid (fun k hk => by have := nd_lt HM.out m (by show m < N.ops.length; rw [HN.out]; exact hml) k hk; have e : (grN N).n = i := HN.out
                                                                             rw [e] at this; exact this)
            obtain ⟨xx, hxx2⟩ : ∃ x, opAt N m = x := ⟨_, rfl⟩
            rw [hxx2] at d0 d1 d2 d3 d4 HNE HCAST
            obtain ⟨xo, xa, xb, xc, xn⟩ := xx
            unfold opV at HNE
            dsimp only at d0 d1 d2 d3 d4 HNE
            clear hxx hmay hxx2
            go_wp2_with fail
            refine HNE.out.mono ?_
            rintro e w3 ⟨lv, rfl, hi3, hb3, hn3⟩
            have HI3 := Lib.hid hi3
            have HN3 := Lib.hid hn3
            have HB3 := Lib.hid (HBm.out.trans (hb3.mono HBm.out.size))
            have HO3 := Lib.hid (own_below HOm.out hb3)
            have HLTm : Hid (∀ k, (Value.slice A2 i c2).ownBlock = some k → k < wr.heap.size) := Lib.hid (fun k hk => (HOm.out.lt k hk).2)
            obtain ⟨A4, c4, rfl, z3, z4⟩ := ints_form hi3
            obtain ⟨L, hL⟩ : ∃ L, (needI ⟨xo, xa, xb, xc, xn⟩).length = L := ⟨_, rfl⟩
            rw [hL] at HI3 z3 HN3 ⊢
            have HL : Hid ((ndN N m).length = L) := Lib.hid (by rw [← hL, ← HCAST.out, List.length_map])
            unfold maxLen at z4
            clear hi3 hb3 hn3 hL
            go_wp2_with fail
            go_loopw [7] (fun vk wk => ∃ k : Nat, k ≤ L ∧ vk = .int .i64 (k : Int) ∧ wk.ownsRow w2.heap.size 3 1 (.slice A2 i c2) i (intsOf (endR N m k)) ∧ Below w2.heap.size w2 wk ∧ Ints wk (.slice A4 L c4) (needI ⟨xo, xa, xb, xc, xn⟩)) (fun vk _ => L - (intOf vk).toNat)
            case atStart => exact ⟨0, Nat.zero_le _, rfl, HO3.out, HB3.out, HI3.out⟩
            case round =>
              obtain ⟨k, hk, rfl, ho, hb, hii⟩ := hrel
              have HOk := Lib.hid ho
              have HBk := Lib.hid hb
              have HIk := Lib.hid hii
              clear ho hb hii
              by_cases hkl : k < L
              · obtain ⟨y, hy⟩ : ∃ y, (ndN N m)[k]? = some y := ⟨_, List.getElem?_eq_getElem (by rw [HL.out]; exact hkl)⟩
                have hyi := HLT.out y (List.mem_of_getElem? hy)
                have hy2 : (needI ⟨xo, xa, xb, xc, xn⟩)[k]? = some (y : Int) := by rw [← HCAST.out, List.getElem?_map, hy]; rfl
                obtain ⟨g2, o2, rfl, hg2, e0⟩ := ints_at HIk.out hy2
                obtain ⟨xv, hxv⟩ := endR_get (N := N) (m := m) (k := k) (j := y) (by rw [HN.out]; exact hyi)
                obtain ⟨B, rfl⟩ : ∃ B, A2 = some ⟨B, 0, none⟩ := by
                  obtain ⟨-, h1 | ⟨g, cap, cur, e, -⟩⟩ := HOk.out
                  · omega
                  · simp only [Value.slice.injEq] at e; exact ⟨g, e.1⟩
                have cy := (HOk.out.cellAt y (by omega)).trans (intsOf_get _ y _ hxv)
                have fy := HOk.out.frozenAt y
                have hst := (HOk.out.stored y (.int .i64 (m : Int))).1
                rw [← intsOf_set, endR_set hy] at hst
                have HST := Lib.hid hst
                have hBl := HLTm.out B rfl
                have hgB : g2 ≠ B := by have := HN3.out g2 o2 _ _ rfl; omega
                have HIS : Hid (Ints (wr.setCell ⟨B, y, none⟩ (.int .i64 (m : Int))) (.slice (some ⟨g2, o2, none⟩) L c4) (needI ⟨xo, xa, xb, xc, xn⟩)) := Lib.hid (ints_kp HIk.out ((Kp.refl (fun q => q = B) wr).setCell (p := ⟨B, y, none⟩) rfl _) (fun g o n c e he => by
                  simp only [Value.slice.injEq, Option.some.injEq, Addr.mk.injEq] at e; omega))
                have HBS : Hid (Below w2.heap.size w2 (wr.setCell ⟨B, y, none⟩ (.int .i64 (m : Int)))) := Lib.hid (HBk.out.setCell (p := ⟨B, y, none⟩) ((HOk.out.lt B rfl).1) _)
                clear hy hy2 hxv hst
                go_wp2_with fail
                exact ⟨⟨k + 1, by omega, by go_num, HST.out, HBS.out, HIS.out⟩, by simp [intOf]; omega⟩
              · have HON : Hid (wr.ownsRow w2.heap.size 3 1 (.slice A2 i c2) i (intsOf (endR N (m + 1) 0))) := Lib.hid (by rw [← endR_next N m (k := k) (by rw [HL.out]; omega)]; exact HOk.out)
                go_wp2_with fail
                exact ⟨⟨m + 1, by omega, by go_num, HON.out, HBk.out⟩, by simp [intOf]; omega⟩
          · have HOE : Hid (wr.ownsRow w2.heap.size 3 1 (.slice A2 i c2) (endsN N).length (intsOf (endsN N))) := Lib.hid (by
              have e := endR_all N (m := m) (by rw [HN.out]; omega)
              have := HOm.out
              rw [e] at this
              rw [HE.out, show (endsOf N).length = i by unfold endsOf; simp; exact HN.out]; exact this)
            go_wp2_with fail
            go_ret
            exact ⟨_, rfl, own_base HOE.out HB02.out.size, HB02.out.trans (HBm.out.mono HB02.out.size)⟩
end Go.Proofs.Ytcphjehjdhgheaa.Nt

namespace Go.Proofs.Ytcphjehjdhgheaa.Nt
open Go.ChangeShapes Go.WideShapes Go.ChangeAt Go.RowKit Go.Proofs.Ytcphjehjdhgheaa.Tr
set_option linter.unusedVariables false
set_option linter.unusedSimpArgs false

/-- The new numbers, of the first m that are taken. -/
def numsM (o : List Nat) (n m : Nat) : List Int := (List.range n).map fun j => if j ∈ o.take m then (newOf o j : Int) else 0
theorem nums_len (o : List Nat) (n m : Nat) : (numsM o n m).length = n := by unfold numsM; simp
theorem nums_zero (o : List Nat) (n : Nat) : numsM o n 0 = List.replicate n 0 := by
  unfold numsM
  refine List.ext_getElem? (fun j => ?_)
  rw [List.getElem?_map, List.getElem?_replicate]
  by_cases hj : j < n
  · rw [List.getElem?_range hj, if_pos hj]; simp
  · rw [List.getElem?_eq_none (by simpa using hj), if_neg hj]; rfl
theorem nums_set {o : List Nat} {n m j : Nat} (hnd : o.Nodup) (hj : o[m]? = some j) : (numsM o n m).set j (m : Int) = numsM o n (m + 1) := by
  refine List.ext_getElem? (fun k => ?_)
  rw [List.getElem?_set, nums_len]
  unfold numsM
  rw [List.getElem?_map, List.getElem?_map]
  by_cases hk : k < n
  · rw [List.getElem?_range hk]
    by_cases e : j = k
    · subst e
      have hn : newOf o j = m := by
        have hm := List.mem_of_getElem? hj
        have h1 := List.idxOf_lt_length_of_mem hm
        have e : o[o.idxOf j]? = some j := by rw [List.getElem?_eq_getElem h1, List.getElem_idxOf]
        exact nodup_get hnd (x := j) e hj
      rw [if_pos rfl, if_pos hk]
      simp [List.take_add_one, hj, hn]
    · rw [if_neg e]
      have : (k ∈ o.take (m + 1)) ↔ k ∈ o.take m := by
        rw [List.take_add_one, hj, List.mem_append]; simp; exact fun h => absurd h.symm e
      simp only [Option.map_some, this]
  · rw [List.getElem?_eq_none (by simpa using hk)]
    by_cases e : j = k
    · rw [if_pos e, if_neg (by omega)]; rfl
    · rw [if_neg e]; rfl
theorem nums_get {o : List Nat} {n j : Nat} (hj : j < n) (hm : j ∈ o) : (numsM o n o.length)[j]? = some (newOf o j : Int) := by
  unfold numsM
  rw [List.getElem?_map, List.getElem?_range hj, List.take_length]; simp [hm]
/-- A number by new ones, by the document. -/
theorem turn_any (w : World) (A : Option Addr) (c n : Nat) (o : List Nat) (k : Int) (hI : Ints w (.slice A n c) (numsM o n o.length)) (hk : k = -1 ∨ (0 ≤ k ∧ k < (n : Int))) (hall : ∀ j, j < n → j ∈ o) :
    Calls Try.prog 53 #[.slice A n c, .int .i64 k] w (fun e w' => e = .returned (.int .i64 (toI o k)) ∧ w' = w) := by
  rcases hk with rfl | ⟨h0, h1⟩
  · rw [toI_neg]
    clear hI hall
    go_enter Try.func53, Try.ntmps53
    go_wp2
    go_ret
    exact ⟨rfl, rfl⟩
  · obtain ⟨j, rfl⟩ : ∃ j : Nat, k = (j : Int) := ⟨k.toNat, by omega⟩
    have hjn : j < n := by omega
    obtain ⟨g, of, rfl, hg, c0⟩ := ints_at hI (nums_get hjn (hall j hjn))
    have e : toI o (j : Int) = (newOf o j : Int) := toI_nat o j
    have HE := Lib.hid e
    obtain ⟨v, hv⟩ : ∃ v, newOf o j = v := ⟨_, rfl⟩
    have HV := Lib.hid hv
    rw [hv] at c0
    have hd : ¬ ((j : Int) < 0) := by omega
    have hd1 : (j : Int) < (n : Int) := by omega
    clear hI hall e hv
    go_enter Try.func53, Try.ntmps53
    go_wp2
    go_ret
    exact ⟨by rw [HE.out, HV.out]; rfl, rfl⟩
/-- .. by layer sched. -/
theorem sort1_any (w : World) (A : Option Addr) (c n b : Nat) (o : List Nat) (k : Int) (hb : w.cell? ⟨b, 0, none⟩ = some (.slice A n c)) (hI : Ints w (.slice A n c) (numsM o n o.length)) (hk : k = -1 ∨ (0 ≤ k ∧ k < (n : Int))) (hall : ∀ j, j < n → j ∈ o) :
    Calls Try.prog 51 #[.int .i64 k, .pointer (some ⟨b, 0, none⟩)] w (fun e w' => e = .returned (.int .i64 (toI o k)) ∧ w' = w) := by
  rcases hk with rfl | ⟨h0, h1⟩
  · rw [toI_neg]
    clear hI hall
    go_enter Try.func51, Try.ntmps51
    go_wp2
    go_ret
    exact ⟨rfl, rfl⟩
  · obtain ⟨j, rfl⟩ : ∃ j : Nat, k = (j : Int) := ⟨k.toNat, by omega⟩
    have hjn : j < n := by omega
    obtain ⟨g, of, rfl, hg, c0⟩ := ints_at hI (nums_get hjn (hall j hjn))
    have e : toI o (j : Int) = (newOf o j : Int) := toI_nat o j
    have HE := Lib.hid e
    obtain ⟨v, hv⟩ : ∃ v, newOf o j = v := ⟨_, rfl⟩
    have HV := Lib.hid hv
    rw [hv] at c0
    have hd : ¬ ((j : Int) < 0) := by omega
    have hd1 : (j : Int) < (n : Int) := by omega
    clear hI hall e hv
    go_enter Try.func51, Try.ntmps51
    go_wp2
    go_ret
    exact ⟨by rw [HE.out, HV.out]; rfl, rfl⟩
theorem run_append_none {P : Program} {w : World} (base : Nat) (t ty e : TypeId) (i : TypeInfo) (size c : Nat) (ht : P.underlying t = some (.slice e)) (hi : P.info? e = some i)
    (v : Value) (n : Nat) (xs : List Value) (hown : w.ownsRow base e size v n xs) : (Builtin.append_ #[t, t] ty #[v, .slice none 0 c]).run P w = .ok v w := by
  rcases hown.2 with ⟨rfl, rfl⟩ | ⟨g, cap, cur, rfl, _, _, hnc, _⟩
  · simp [Builtin.append_, run_underlying ht, sizeOf, typeInfo, hi, Builtin.lenOf, Builtin.firstCells]
  · simp [Builtin.append_, run_underlying ht, sizeOf, typeInfo, hi, Builtin.lenOf, Builtin.firstCells, hnc, storeCells]
theorem ints_news {w : World} {A : Option Addr} {n c : Nat} {l : List Int} {ad : Addr} (h : Ints w (.slice A n c) l) (hA : A = some ad) : ∀ (j : Nat) (u : Value), (intsOf l)[j]? = some u → w.cell? (ad.add j) = some u := by
  intro j u hu
  unfold intsOf at hu
  rw [List.getElem?_map] at hu
  obtain ⟨x, hx, rfl⟩ := Option.map_eq_some_iff.1 hu
  obtain ⟨g, o, e, hg, hc⟩ := ints_at h hx
  rw [hA] at e; injection e with e; subst e
  by_cases e0 : j = 0
  · subst e0; simpa [Addr.add] using hc
  · simpa [Addr.add, e0] using hc
/-- A row of numbers put behind an empty one of the call's own: a copy. -/
theorem copy_ints (w : World) (base : Nat) (v0 : Value) (h0 : w.ownsRow base 3 1 v0 0 (intsOf [])) (A : Option Addr) (n c : Nat) (l : List Int) (hn : n = l.length) (hI : Ints w (.slice A n c) l) (hm : n ≤ 1000000) (hb : base ≤ w.heap.size) :
    ∃ v' w', (Builtin.append_ #[23, 23] 23 #[v0, .slice A n c]).run Try.prog w = .ok v' w' ∧ w'.ownsRow base 3 1 v' n (intsOf l) ∧ w.grownBy w' v0.ownBlock := by
  obtain ⟨i0, hi0, hz0, hz1, hz2⟩ := info_parts info3
  cases A with
  | none =>
    have h0' : n = 0 := by
      by_cases hz : n = 0
      · exact hz
      · obtain ⟨x, hx⟩ : ∃ x, l[0]? = some x := ⟨_, List.getElem?_eq_getElem (by omega)⟩
        obtain ⟨g, o, e, -⟩ := ints_at hI hx
        cases e
    subst h0'
    have : l = [] := List.length_eq_zero_iff.1 hn.symm
    subst this
    exact ⟨v0, w, run_append_none base 23 23 3 i0 1 c Try.underlying23 hi0 v0 0 _ h0, h0, World.grownBy.refl _ _⟩
  | some ad =>
    obtain ⟨v', w', hr, h2, h3, h4, h5⟩ := run_append_own_at (P := Try.prog) w base 23 23 3 i0 (.int .i64 0) 1 8 Try.underlying23 hi0 hz0 hz1 hz2 rfl (by decide) v0 0 (intsOf []) h0 ad n c (intsOf l) (by unfold intsOf; simp; omega) (ints_news hI rfl) (fun u hu => by
      unfold intsOf at hu
      obtain ⟨x, _, rfl⟩ := List.mem_map.1 hu
      rfl) (by unfold maxLen; omega) (by omega) hb
    refine ⟨v', w', hr, ?_, h3⟩
    have e : intsOf [] ++ intsOf l = intsOf l := by unfold intsOf; simp
    rw [e, Nat.zero_add] at h2
    exact h2
/-- An append whose run is known. -/
theorem append_by {P : Program} {w w' : World} {ops : Array Oper} {rest : List Oper} {o : Oper} {a : Act} {Q : Exit → Act → World → Prop} (hgd : o.guard = none) (s x : Operand) (t : TypeId)
    (ho : o.op = .call { callee := .builtin .append, args := #[s, x], argTypes := #[t, t] }) (v1 v2 v' : Value) (hs : a.eval s = v1) (hx : a.eval x = v2) (hrun : (Builtin.append_ #[t, t] o.type #[v1, v2]).run P w = .ok v' w')
    (h : wpList P ops Q rest (a.put o.dst v') w') : wpList P ops Q (o :: rest) a w := by
  refine wpList_plain hgd fun K hK => ?_
  unfold Oper.wp
  simp [execOp, ho, resolve, invoke, builtin, hs, hx, hrun, Result.andThen]
  exact hK _ _ h
/-- One operator in a box. -/
structure OpBox (w : World) (b T : Nat) (x : Op5) : Prop where
  cell : w.heap[b]? = some (.cells #[.int .i64 x.op, .int .i64 x.a, .int .i64 x.b, .int .i64 x.c, .int .i64 x.n] T (0, 0))
theorem OpBox.lt {w : World} {b T : Nat} {x : Op5} (h : OpBox w b T x) : b < w.heap.size := lt_of_block h.cell
theorem OpBox.ats {w : World} {b T : Nat} {x : Op5} (h : OpBox w b T x) : w.cell? ⟨b, 0, none⟩ = some (.int .i64 x.op) ∧ w.cell? ⟨b, 1, none⟩ = some (.int .i64 x.a) ∧ w.cell? ⟨b, 2, none⟩ = some (.int .i64 x.b) ∧ w.cell? ⟨b, 3, none⟩ = some (.int .i64 x.c) ∧ w.cell? ⟨b, 4, none⟩ = some (.int .i64 x.n) ∧
    w.frozen? ⟨b, 1, none⟩ = false ∧ w.frozen? ⟨b, 2, none⟩ = false ∧ w.frozen? ⟨b, 3, none⟩ = false := by
  have := h.cell
  refine ⟨?_, ?_, ?_, ?_, ?_, ?_, ?_, ?_⟩ <;> simp [World.cell?, World.frozen?, this]
theorem OpBox.setA {w : World} {b T : Nat} {x : Op5} (h : OpBox w b T x) (y : Int) : OpBox (w.setCell ⟨b, 1, none⟩ (.int .i64 y)) b T ⟨x.op, y, x.b, x.c, x.n⟩ := ⟨by have := h.cell; simp [World.setCell, Array.getElem?_modify, this]⟩
theorem OpBox.setB {w : World} {b T : Nat} {x : Op5} (h : OpBox w b T x) (y : Int) : OpBox (w.setCell ⟨b, 2, none⟩ (.int .i64 y)) b T ⟨x.op, x.a, y, x.c, x.n⟩ := ⟨by have := h.cell; simp [World.setCell, Array.getElem?_modify, this]⟩
theorem OpBox.setC {w : World} {b T : Nat} {x : Op5} (h : OpBox w b T x) (y : Int) : OpBox (w.setCell ⟨b, 3, none⟩ (.int .i64 y)) b T ⟨x.op, x.a, x.b, y, x.n⟩ := ⟨by have := h.cell; simp [World.setCell, Array.getElem?_modify, this]⟩
end Go.Proofs.Ytcphjehjdhgheaa.Nt
