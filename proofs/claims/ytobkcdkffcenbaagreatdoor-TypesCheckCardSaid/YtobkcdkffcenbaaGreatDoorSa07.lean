/- Layer types: three rows of streams one behind the other. Conditions: the rows lie in memory. -/
import Derived.Test.YtobkcdkffcenbaaGreatDoorSa06
import Derived.Laws.AppendOwnNone
set_option linter.unusedVariables false
set_option linter.unusedSimpArgs false
namespace Go.Proofs.YtobkcdkffcenbaaGreatDoor.Ty
open Go.ChangeShapes Go.WideShapes Go.ChangeAt Go.RowKit Go.Deep
open Go.Proofs.YtobkcdkffcenbaaGreatDoor.Tr (str Bytes below_new)
open Go.Proofs.YtobkcdkffcenbaaGreatDoor.Pg (Prm Unt flat_at flat_len)
open Go.Proofs.YtobkcdkffcenbaaGreatDoor.Ow (PrmN UntN RowN rown_at rown_form)
theorem run_append_none {P : Program} {w : World} (base : Nat) (t ty e : TypeId) (i : TypeInfo) (size c : Nat) (ht : P.underlying t = some (.slice e)) (hi : P.info? e = some i)
    (v : Value) (n : Nat) (xs : List Value) (hown : w.ownsRow base e size v n xs) : (Builtin.append_ #[t, t] ty #[v, .slice none 0 c]).run P w = .ok v w := by
  rcases hown.2 with ⟨rfl, rfl⟩ | ⟨g, cap, cur, rfl, _, _, hnc, _⟩
  · simp [Builtin.append_, run_underlying ht, sizeOf, typeInfo, hi, Builtin.lenOf, Builtin.firstCells]
  · simp [Builtin.append_, run_underlying ht, sizeOf, typeInfo, hi, Builtin.lenOf, Builtin.firstCells, hnc, storeCells]
theorem append_none {P : Program} {w : World} {ops : Array Oper} {rest : List Oper} {o : Oper} {a : Act} {Q : Exit → Act → World → Prop} (hgd : o.guard = none) (s x : Operand) (t : TypeId)
    (ho : o.op = .call { callee := .builtin .append, args := #[s, x], argTypes := #[t, t] })
    (base : Nat) (e : TypeId) (i : TypeInfo) (size : Nat) (ht : P.underlying t = some (.slice e)) (hi : P.info? e = some i)
    (v : Value) (n : Nat) (xs : List Value) (hs : a.eval s = v) (hown : w.ownsRow base e size v n xs) (c : Nat) (hx : a.eval x = .slice none 0 c)
    (h : wpList P ops Q rest (a.put o.dst v) w) : wpList P ops Q (o :: rest) a w := by
  refine wpList_plain hgd fun K hK => ?_
  have hrun := run_append_none (P := P) (w := w) base t o.type e i size c ht hi v n xs hown
  unfold Oper.wp
  simp [execOp, ho, resolve, invoke, builtin, hs, hx, hrun, Result.andThen]
  exact hK _ _ h
theorem prms_flat (l : List Prm) : prmsOf l = (l.map fun p => [Value.string (str p.name), Value.int .i64 p.ty]).flatten := by unfold prmsOf; rw [List.flatMap_def]
theorem prms_len (l : List Prm) : (prmsOf l).length = l.length * 2 := by
  rw [prms_flat, flat_len (K := 2) _ (fun y hy => by obtain ⟨p, _, rfl⟩ := List.mem_map.1 hy; rfl), List.length_map]
theorem prms_app (l m : List Prm) : prmsOf (l ++ m) = prmsOf l ++ prmsOf m := by unfold prmsOf; rw [List.flatMap_append]
theorem prms_at (l : List Prm) (i : Nat) (p : Prm) (h : l[i]? = some p) (k : Nat) (hk : k < 2) : (prmsOf l)[i * 2 + k]? = [Value.string (str p.name), Value.int .i64 p.ty][k]? := by
  rw [prms_flat]
  exact flat_at (K := 2) _ i _ (fun y hy => by obtain ⟨p, _, rfl⟩ := List.mem_map.1 hy; rfl) (by rw [List.getElem?_map, h]; rfl) k hk
theorem prms_one (l : List Prm) : ∀ u ∈ prmsOf l, u.oneCell' = true := fun u hu => by
  unfold prmsOf at hu
  obtain ⟨p, _, hu⟩ := List.mem_flatMap.1 hu
  simp at hu
  rcases hu with rfl | rfl <;> rfl
theorem prm_news {w : World} {l : List Prm} {ad : Addr} {c : Nat} (h : RowN 2 PrmN w l (.slice (some ad) l.length c)) : ∀ j u, (prmsOf l)[j]? = some u → w.cell? (ad.add j) = some u := fun j u hu => by
  have hj := (List.getElem?_eq_some_iff.1 hu).1
  rw [prms_len] at hj
  obtain ⟨p, hp⟩ : ∃ p, l[j / 2]? = some p := ⟨_, List.getElem?_eq_getElem (by omega)⟩
  obtain ⟨g, o, c', x, hv, hg, hx, hxl, hcell⟩ := rown_at h hp
  simp only [Value.slice.injEq, Option.some.injEq, true_and] at hv
  obtain ⟨rfl, rfl⟩ := hv
  have e := prms_at l (j / 2) p hp (j % 2) (by omega)
  have hjj : j / 2 * 2 + j % 2 = j := by omega
  rw [hjj, hu] at e
  rw [Tr.add_none, ← hjj, ← Nat.add_assoc, hcell (j % 2) (by omega), hx.1]
  exact e.symm
theorem rown_own {w : World} {b : Nat} {v : Value} {l : List Prm} (h : w.ownsRow b 45 2 v l.length (prmsOf l)) (hs : ∀ p ∈ l, p.name.length ≤ maxLen) : RowN 2 PrmN w l v := by
  rcases h.2 with ⟨rfl, h0⟩ | ⟨g, c, cur, rfl, hb, hh, h1, h2, h3, h4⟩
  · have : l = [] := List.length_eq_zero_iff.1 h0
    subst this
    exact ⟨none, 0, rfl, by simp, by unfold maxLen; omega, fun i a h => by simp at h⟩
  · refine ⟨some ⟨g, 0, none⟩, c, rfl, h1, h2, fun i p hp => ⟨g, 0, _, rfl, (h.lt g rfl).2, ⟨rfl, hs p (List.mem_of_getElem? hp)⟩, rfl, fun k hk => ?_⟩⟩
    have hi := (List.getElem?_eq_some_iff.1 hp).1
    rw [Nat.zero_add, h.cellAt (i * 2 + k) (by omega)]
    exact prms_at l i p hp k hk
theorem sum_take (ls : List (List Prm)) (k : Nat) (l : List Prm) (h : ls[k]? = some l) : ((ls.take (k + 1)).map List.length).sum = ((ls.take k).map List.length).sum + l.length := by
  rw [List.take_add_one, h, show (some l).toList = [l] from rfl, List.map_append, List.sum_append]; simp
theorem flat_take (ls : List (List Prm)) (k : Nat) (l : List Prm) (h : ls[k]? = some l) : (ls.take (k + 1)).flatten = (ls.take k).flatten ++ l := by
  rw [List.take_add_one, h, show (some l).toList = [l] from rfl, List.flatten_append]; simp
theorem sum_le (ls : List (List Prm)) (k : Nat) : ((ls.take k).map List.length).sum ≤ (ls.map List.length).sum := by
  conv => rhs; rw [← List.take_append_drop k ls]
  rw [List.map_append, List.sum_append]; omega
theorem len_flat (ls : List (List Prm)) : ls.flatten.length = (ls.map List.length).sum := by simp [List.length_flatten]
set_option maxRecDepth 100000 in
set_option maxHeartbeats 8000000 in
theorem concat_any (B c : Nat) (ls : List (List Prm)) (vs : Array Value) (f : Nat × Nat) (w : World) (hX : w.heap[B]? = some (.cells vs 33 f)) (hlen : ls.length = 3) (hv : vs.size = 3) (hc : 3 ≤ c) (hcm : c ≤ maxLen) (hR : ∀ (k : Nat) (l : List Prm) (v : Value), ls[k]? = some l → vs[k]? = some v → RowN 2 PrmN w l v) (hpos : 0 < (ls.map List.length).sum) (hle : (ls.map List.length).sum ≤ 100000) :
    Calls Tryz.prog 61 #[.slice (some ⟨B, 0, none⟩) 3 c] w fun e w' => ∃ v, e = .returned v ∧ w'.ownsRow w.heap.size 45 2 v ls.flatten.length (prmsOf ls.flatten) ∧ Below w.heap.size w w' := by
  obtain ⟨i0, hi, hz0, hz1, hz2⟩ := info_parts infoPrm
  have HX := Lib.hid hX
  have HR := Lib.hid hR
  have HL := Lib.hid hlen
  have HVS := Lib.hid hv
  have lB := lt_of_block hX
  unfold maxLen at hcm
  obtain ⟨N, hN⟩ : ∃ N, (ls.map List.length).sum = N := ⟨_, rfl⟩
  have HN := Lib.hid hN
  have HG := Lib.hid (grow_nil N w (by omega) (by omega))
  rw [hN] at hpos hle
  clear hX hR hlen hv hN
  go_enter Tryz.func61, Tryz.ntmps61
  go_wp2
  go_loopw [3, 11] (fun s i wr => ∃ k : Nat, k ≤ 3 ∧ i = .int .i64 k ∧ s = .int .i64 (((ls.take k).map List.length).sum : Nat) ∧ wr = w) (fun _ i _ => 3 - (intOf i).toNat)
  case atStart => exact ⟨0, by omega, rfl, rfl, rfl⟩
  case round =>
    obtain ⟨k, hk, rfl, rfl, hwr⟩ := hrel
    have hwr' := hwr.symm
    clear hwr
    subst hwr'
    by_cases hlt : k < 3
    · obtain ⟨l, hl⟩ : ∃ l, ls[k]? = some l := ⟨_, List.getElem?_eq_getElem (by have := HL.out; omega)⟩
      obtain ⟨v, hvk⟩ : ∃ v, vs[k]? = some v := ⟨_, Array.getElem?_eq_getElem (by have := HVS.out; omega)⟩
      obtain ⟨A, cc, rfl, z1, z2, -⟩ := rown_form (HR.out k l v hl hvk)
      have q0 : w.cell? ⟨B, k, none⟩ = some (.slice A l.length cc) := (cells_at HX.out k).trans hvk
      have hs := sum_take ls k l hl
      have hsl := sum_le ls (k + 1)
      rw [HN.out] at hsl
      obtain ⟨S, hS⟩ : ∃ S, ((ls.take k).map List.length).sum = S := ⟨_, rfl⟩
      rw [hS] at hs ⊢
      have HS := Lib.hid hs
      have hb1 : S + l.length ≤ 100000 := by omega
      have hki : (k : Int) < 3 := by omega
      clear hl hvk hS hs hsl
      go_wp2
      refine ⟨⟨k + 1, by omega, by go_num, by rw [HS.out]; congr 1, by first | rfl | trivial⟩, by simp [intOf]; omega⟩
    · have hk3 : k = 3 := by omega
      subst hk3
      have HS : Hid (((ls.take 3).map List.length).sum = N) := Lib.hid (by rw [← HN.out, List.take_of_length_le (by have := HL.out; omega)])
      rw [HS.out]
      go_wp2_with fail
      refine HG.out.mono ?_
      rintro r w2 ⟨cg, rfl, hown, hb2⟩
      have HB2 := Lib.hid hb2
      have HO2 : Hid (w2.ownsRow w.heap.size 45 2 (.slice (some ⟨w.heap.size, 0, none⟩) 0 cg) ((ls.take 0).flatten).length (prmsOf (ls.take 0).flatten)) := Lib.hid hown
      clear hown hb2
      go_wp2
      go_loopw [6, 27] (fun nv i wq => ∃ (k : Nat) (nv' : Value), nv' = nv ∧ k ≤ 3 ∧ i = .int .i64 k ∧ wq.ownsRow w.heap.size 45 2 nv' ((ls.take k).flatten).length (prmsOf (ls.take k).flatten) ∧ Below w.heap.size w wq) (fun _ i _ => 3 - (intOf i).toNat)
      case atStart => exact ⟨0, _, rfl, by omega, rfl, HO2.out, HB2.out⟩
      case round =>
        obtain ⟨k, nv', rfl, hk, rfl, hown, hb⟩ := hrel
        have HO := Lib.hid hown
        have HB := Lib.hid hb
        by_cases hlt : k < 3
        · obtain ⟨l, hl⟩ : ∃ l, ls[k]? = some l := ⟨_, List.getElem?_eq_getElem (by have := HL.out; omega)⟩
          obtain ⟨v, hvk⟩ : ∃ v, vs[k]? = some v := ⟨_, Array.getElem?_eq_getElem (by have := HVS.out; omega)⟩
          have hrow := HR.out k l v hl hvk
          have HROW := Lib.hid hrow
          obtain ⟨A, cc, rfl, z1, z2, z3⟩ := rown_form hrow
          have q0 : wr.cell? ⟨B, k, none⟩ = some (.slice A l.length cc) := (hb.cell (p := ⟨B, k, none⟩) lB).trans ((cells_at HX.out k).trans hvk)
          have lBq : B < wr.heap.size := by have := hb.size; omega
          have HF := Lib.hid (flat_take ls k l hl)
          have hfl : ((ls.take k).flatten).length + l.length ≤ 100000 := by
            have h1 := congrArg List.length HF.out
            rw [List.length_append, len_flat, ] at h1
            have h2 := sum_le ls (k + 1)
            rw [HN.out] at h2
            omega
          have hsz := hb.size
          have hki : (k : Int) < 3 := by omega
          clear hl hvk hrow hown hb
          cases A with
          | none =>
            have hl0 : l = [] := by
              cases hl0 : l with
              | nil => rfl
              | cons a r =>
                obtain ⟨g, o, c', x, hv, -⟩ := rown_at HROW.out (i := 0) (a := a) (by rw [hl0]; rfl)
                simp at hv
            subst hl0
            have HO3 : Hid (wr.ownsRow w.heap.size 45 2 nv' ((ls.take (k + 1)).flatten).length (prmsOf (ls.take (k + 1)).flatten)) := Lib.hid (by rw [HF.out, List.append_nil]; exact HO.out)
            go_wp2_with (at_builtin; refine append_none rfl (.tmp 31) (.tmp 32) 33 rfl w.heap.size 45 i0 2 Tryz.underlying33 hi _ ((ls.take k).flatten).length _ rfl HO.out cc rfl ?_)
            go_wp2
            refine ⟨⟨k + 1, _, rfl, by omega, by go_num, HO3.out, HB.out⟩, by simp [intOf]; omega⟩
          | some ad =>
            go_wp2_with (at_builtin; refine wpList_append_own _ rfl (.tmp 31) (.tmp 32) 33 rfl w.heap.size 45 i0 _ 2 24 Tryz.underlying33 hi hz0 hz1 hz2 rfl (by decide) _ ((ls.take k).flatten).length (prmsOf (ls.take k).flatten) rfl HO.out ad l.length cc (prmsOf l) rfl ?a0 ?a1 ?b1 ?c1 ?d1 ?e1 ?_)
            case a0 => exact prms_len l
            case a1 => exact prm_news (HROW.out.below HB.out (Ow.PrmN.below HB.out))
            case b1 => exact prms_one l
            case c1 => unfold maxLen; omega
            case d1 => omega
            case e1 => exact hsz
            intro v' w4 hown4 hgrow _
            have HO4 : Hid (w4.ownsRow w.heap.size 45 2 v' ((ls.take (k + 1)).flatten).length (prmsOf (ls.take (k + 1)).flatten)) := Lib.hid (by
              have e : (List.take k (List.map List.length ls)).sum = (ls.take k).flatten.length := by rw [len_flat, List.map_take]
              rw [HF.out, List.length_append, prms_app, ← e]; exact hown4)
            have HB4 : Hid (Below w.heap.size w w4) := Lib.hid (HB.out.grown hgrow hsz (fun j hj => (HO.out.lt j hj).1))
            clear hown4 hgrow
            go_wp2
            refine ⟨⟨k + 1, _, rfl, by omega, by go_num, HO4.out, HB4.out⟩, by simp [intOf]; omega⟩
        · have hk3 : k = 3 := by omega
          subst hk3
          have HO3 : Hid (wr.ownsRow w.heap.size 45 2 nv' ls.flatten.length (prmsOf ls.flatten)) := Lib.hid (by
            have := HO.out
            rw [List.take_of_length_le (by have := HL.out; omega)] at this; exact this)
          clear hown hb
          go_wp2
          go_ret
          exact ⟨_, rfl, HO3.out, HB.out⟩
end Go.Proofs.YtobkcdkffcenbaaGreatDoor.Ty

/- Layer types: a unit's streams. Conditions: the unit lies in memory. -/
namespace Go.Proofs.YtobkcdkffcenbaaGreatDoor.Ty
open Go.ChangeShapes Go.WideShapes Go.ChangeAt Go.RowKit
open Go.Proofs.YtobkcdkffcenbaaGreatDoor.Tr (str Bytes below_new)
open Go.Proofs.YtobkcdkffcenbaaGreatDoor.Pg (Prm Unt)
open Go.Proofs.YtobkcdkffcenbaaGreatDoor.Ow (PrmN UntN RowN rown_at rown_form)
def streamsM (u : Unt) : List Prm := if u.contract = true then u.ins else u.ins ++ [u.out] ++ u.vars
def RowPost (w : World) (l : List Prm) (e : Ending) (w' : World) : Prop := ∃ v, e = .returned v ∧ RowN 2 PrmN w' l v ∧ Below w.heap.size w w'
theorem names_short {w : World} {l : List Prm} {v : Value} (h : RowN 2 PrmN w l v) : ∀ p ∈ l, p.name.length ≤ maxLen := fun p hp => by
  obtain ⟨i, hi⟩ := List.mem_iff_getElem?.1 hp
  obtain ⟨g, o, c', x, hv, hg, hx, hxl, hcell⟩ := rown_at h hi
  exact hx.2
set_option maxRecDepth 100000 in
set_option maxHeartbeats 4000000 in
theorem streams_any (u : Unt) (x : List Value) (w : World) (hu : UntN w u x) (h1 : u.ins.length ≤ 1000) (h2 : u.vars.length ≤ 1000) : Calls Tryz.prog 43 #[.agg x.toArray] w (RowPost w (streamsM u)) := by
  obtain ⟨iv, vv, qv, lv, rfl, u1, u2, u3, u4, hs, hso⟩ := hu
  have U1 := Lib.hid u1
  have U2 := Lib.hid u2
  obtain ⟨Ai, ci, rfl, i1, i2, -⟩ := rown_form u1
  obtain ⟨Av, cv, rfl, -, -, -⟩ := rown_form u2
  obtain ⟨Aq, cq, rfl, -, -, -⟩ := rown_form u3
  obtain ⟨Al, cl, rfl, -, -, -⟩ := rown_form u4
  clear u1 u2 u3 u4
  cases hc : u.contract with
  | true =>
    have HE : Hid (streamsM u = u.ins) := Lib.hid (by unfold streamsM; rw [if_pos hc])
    rw [HE.out]
    clear hc
    go_enter Tryz.func43, Tryz.ntmps43
    go_wp2
    go_ret
    exact ⟨_, rfl, U1.out.below (below_new w _) (Ow.PrmN.below (below_new w _)), below_new w _⟩
  | false =>
    have HE : Hid (streamsM u = [u.ins, [u.out], u.vars].flatten) := Lib.hid (by unfold streamsM; rw [if_neg (by rw [hc]; simp)]; simp)
    rw [HE.out]
    obtain ⟨w1, hw1⟩ : ∃ W, w.alloc (.cells #[.bool false, .string (str u.name), .slice Ai u.ins.length ci, .string (str u.out.name), .int .i64 u.out.ty, .slice Av u.vars.length cv, .slice Aq u.eqs.length cq, .slice Al u.items.length cl] 49) = W := ⟨_, rfl⟩
    have hb1 : Below w.heap.size w w1 := hw1 ▸ below_new w _
    obtain ⟨w2, hw2⟩ : ∃ W, w1.alloc (.cells #[.string (str u.out.name), .int .i64 u.out.ty] 45) = W := ⟨_, rfl⟩
    have hb2 : Below w1.heap.size w1 w2 := hw2 ▸ below_new w1 _
    have n1 : w1.heap.size = w.heap.size + 1 := by rw [← hw1]; simp
    have n2 : w2.heap.size = w.heap.size + 1 + 1 := by rw [← hw2]; simp [n1]
    have hX2 : w2.heap[w.heap.size + 1]? = some (.cells #[.string (str u.out.name), .int .i64 u.out.ty] 45 (0, 0)) := by rw [← n1, ← hw2]; exact heap_alloc_new w1 _
    obtain ⟨w3, hw3⟩ : ∃ W, w2.alloc (.cells #[.slice Ai u.ins.length ci, .slice (some ⟨w.heap.size + 1, 0, none⟩) 1 1, .slice Av u.vars.length cv] 33) = W := ⟨_, rfl⟩
    have hb3 : Below w2.heap.size w2 w3 := hw3 ▸ below_new w2 _
    have hX3 : w3.heap[w.heap.size + 1 + 1]? = some (.cells #[.slice Ai u.ins.length ci, .slice (some ⟨w.heap.size + 1, 0, none⟩) 1 1, .slice Av u.vars.length cv] 33 (0, 0)) := by rw [← n2, ← hw3]; exact heap_alloc_new w2 _
    have hb13 : Below w.heap.size w w3 := hb1.trans ((hb2.trans (hb3.mono hb2.size)).mono hb1.size)
    have l1 := lt_of_block hX2
    have hX2' := (hb3.block _ l1).trans hX2
    have hone : RowN 2 PrmN w3 [u.out] (.slice (some ⟨w.heap.size + 1, 0, none⟩) 1 1) := by
      refine ⟨some ⟨w.heap.size + 1, 0, none⟩, 1, rfl, by simp, by unfold maxLen; omega, fun i a ha => ?_⟩
      match i, ha with
      | 0, ha =>
        simp at ha; subst ha
        refine ⟨w.heap.size + 1, 0, _, rfl, lt_of_block hX2', ⟨rfl, hso⟩, rfl, fun k hk => ?_⟩
        rw [cells_at hX2']
        match k, hk with
        | 0, _ => rfl
        | 1, _ => rfl
      | i + 1, ha => simp at ha
    have HC := Lib.hid (concat_any (w.heap.size + 1 + 1) 3 [u.ins, [u.out], u.vars] _ _ w3 hX3 rfl rfl (Nat.le_refl _) (by unfold maxLen; omega) (fun k l v hl hv => by
      match k, hl, hv with
      | 0, hl, hv => simp at hl hv; subst hl hv; exact U1.out.below hb13 (Ow.PrmN.below hb13)
      | 1, hl, hv => simp at hl hv; subst hl hv; exact hone
      | 2, hl, hv => simp at hl hv; subst hl hv; exact U2.out.below hb13 (Ow.PrmN.below hb13)
      | k + 3, hl, hv => simp at hl) (by simp; omega) (by simp; omega))
    have HB13 := Lib.hid hb13
    have HW1 := Lib.hid hw1
    have HW2 := Lib.hid hw2
    have HW3 := Lib.hid hw3
    have HSH : Hid (∀ p ∈ [u.ins, [u.out], u.vars].flatten, p.name.length ≤ maxLen) := Lib.hid (fun p hp => by
      simp at hp
      rcases hp with hp | rfl | hp
      · exact names_short U1.out p hp
      · exact hso
      · exact names_short U2.out p hp)
    clear hw1 hw2 hw3 hb1 hb2 hb3 hX2 hX3 hb13 hX2' hone n1 n2 l1
    go_enter Tryz.func43, Tryz.ntmps43
    go_wp2_with fail
    rw [HW1.out, HW2.out, HW3.out]
    refine HC.out.mono ?_
    rintro r w4 ⟨v, rfl, hown, hb4⟩
    have HR := Lib.hid (rown_own hown HSH.out)
    have HB4 : Hid (Below w.heap.size w w4) := Lib.hid (HB13.out.trans (hb4.mono HB13.out.size))
    clear hown hb4
    go_wp2
    go_ret
    exact ⟨_, rfl, HR.out, HB4.out⟩
end Go.Proofs.YtobkcdkffcenbaaGreatDoor.Ty

/- Layer types: a unit. Conditions: the nodes ahead and the table lie in memory. -/
namespace Go.Proofs.YtobkcdkffcenbaaGreatDoor.Ty
open Go.ChangeShapes Go.WideShapes Go.ChangeAt Go.RowKit
open Go.Proofs.YtobkcdkffcenbaaGreatDoor.Tr
open Go.Proofs.YtobkcdkffcenbaaGreatDoor.Pg (Prm Eqn Itm Unt)
open Go.Proofs.YtobkcdkffcenbaaGreatDoor.Ow (PrmN EqnN ItmN UntN RowN rown_at rown_form)
noncomputable def itemsM (f : Bytes → Option Int) : List Itm → Int
  | [] => 0
  | i :: r => if itemM ⟨f, noN⟩ i ≠ 0 then itemM ⟨f, noN⟩ i else itemsM (nextF f i) r
noncomputable def eqnsM (E : Env) : List Eqn → Int
  | [] => 0
  | q :: r => if eqnM E q ≠ 0 then eqnM E q else eqnsM E r
noncomputable def unitM (g : Bytes → Option (List Int × Int)) (u : Unt) : Int :=
  if itemsM (strOf (streamsM u)) u.items ≠ 0 then itemsM (strOf (streamsM u)) u.items else eqnsM ⟨strOf (streamsM u), g⟩ u.eqs
theorem drop_at {α : Type} {l : List α} {j : Nat} {e : α} (h : l[j]? = some e) : l.drop j = e :: l.drop (j + 1) := by
  have hj := (List.getElem?_eq_some_iff.1 h).1
  rw [List.drop_eq_getElem_cons hj]; congr 1; exact (List.getElem?_eq_some_iff.1 h).2
theorem grown_tr {w a b : World} {row : Option Nat} (g1 : w.grownBy a row) (g2 : a.grownBy b row) : w.grownBy b row :=
  ⟨g2.os.trans g1.os, g2.tape.trans g1.tape, g2.output.trans g1.output, Nat.le_trans g1.size g2.size, fun k hk hne => (g2.block k (Nat.lt_of_lt_of_le hk g1.size) hne).trans (g1.block k hk hne)⟩
set_option maxRecDepth 100000 in
set_option maxHeartbeats 16000000 in
theorem unit_any (nv : Value) (n2 : Nat) (g : Bytes → Option (List Int × Int)) (u : Unt) (x : List Value) (w : World) (hN : NodAt w nv n2 g) (hT : ShAt w) (hu : UntN w u x) (h1 : u.ins.length ≤ 1000) (h2 : u.vars.length ≤ 1000) (h3 : u.items.length ≤ 1000000) :
    Calls Tryz.prog 15 #[.agg #[.map none, nv], .agg x.toArray] w (ErrP w (unitM g u)) := by
  have hmm := @run_makeMap Tryz.prog
  obtain ⟨nr, rfl⟩ : ∃ r, nv = .map r := by
    rcases hN with ⟨rfl, _⟩ | ⟨_, b, rfl, _⟩
    · exact ⟨_, rfl⟩
    · exact ⟨_, rfl⟩
  have HU := Lib.hid hu
  obtain ⟨iv, vv, qv, lv, rfl, u1, u2, u3, u4, hs, hso⟩ := hu
  have U3 := Lib.hid u3
  have U4 := Lib.hid u4
  obtain ⟨Ai, ci, rfl, -, -, -⟩ := rown_form u1
  obtain ⟨Av, cv, rfl, -, -, -⟩ := rown_form u2
  obtain ⟨Aq, cq, rfl, k1, k2, -⟩ := rown_form u3
  obtain ⟨Al, cl, rfl, k3, k4, -⟩ := rown_form u4
  unfold maxLen at k2 k4
  clear u1 u2 u3 u4
  have N := news_two w (.cells #[.map none, (.map nr)] 60) (.cells #[.bool u.contract, .string (str u.name), .slice Ai u.ins.length ci, .string (str u.out.name), .int .i64 u.out.ty, .slice Av u.vars.length cv, .slice Aq u.eqs.length cq, .slice Al u.items.length cl] 49)
  obtain ⟨w1, hw1⟩ : ∃ W, (w.alloc (.cells #[.map none, (.map nr)] 60)).alloc (.cells #[.bool u.contract, .string (str u.name), .slice Ai u.ins.length ci, .string (str u.out.name), .int .i64 u.out.ty, .slice Av u.vars.length cv, .slice Aq u.eqs.length cq, .slice Al u.items.length cl] 49) = W := ⟨_, rfl⟩
  have n1 : w1.heap.size = w.heap.size + 2 := by rw [← hw1]; simp
  rw [hw1] at N
  have hb1 := N.1
  have l1 := lt_of_block N.2.1
  have l2 := lt_of_block N.2.2
  have N2 := news_two w1 (.map #[] 0) (.cells #[.map (some w1.heap.size), (.map nr)] 60)
  have hm1 : MapIs ((w1.alloc (.map #[] 0)).alloc (.cells #[.map (some w1.heap.size), (.map nr)] 60)) w1.heap.size 0 (fun s => (strOf ([] : List Prm) s).map (Value.int .i64 ·)) := (MapIs.made w1).alloc _
  obtain ⟨w2, hw2⟩ : ∃ W, (w1.alloc (.map #[] 0)).alloc (.cells #[.map (some w1.heap.size), (.map nr)] 60) = W := ⟨_, rfl⟩
  rw [hw2] at N2 hm1
  rw [n1] at N2 hw2 hm1
  have hb2 : Below w.heap.size w w2 := hb1.trans ((n1 ▸ N2.1 : Below w1.heap.size w1 w2).mono hb1.size)
  have hb12 : Below w1.heap.size w1 w2 := n1 ▸ N2.1
  have n2s : w2.heap.size = w.heap.size + 4 := by rw [← hw2]; simp [n1]
  -- what stays of the boxes
  have X1 : w2.heap[w.heap.size + 1]? = some (.cells #[.bool u.contract, .string (str u.name), .slice Ai u.ins.length ci, .string (str u.out.name), .int .i64 u.out.ty, .slice Av u.vars.length cv, .slice Aq u.eqs.length cq, .slice Al u.items.length cl] 49 (0, 0)) := (hb12.block _ l2).trans N.2.2
  have X2 : w2.heap[w.heap.size + 2 + 1]? = some (.cells #[.map (some (w.heap.size + 2)), (.map nr)] 60 (0, 0)) := N2.2.2
  have X0 : w1.heap[w.heap.size]? = some (.cells #[.map none, (.map nr)] 60 (0, 0)) := N.2.1
  have x00 : w1.cell? ⟨w.heap.size, 1, none⟩ = some (.map nr) := (cells_at X0 1).trans rfl
  have hC := streams_any u _ w2 (Ow.UntN.below hb2 _ _ HU.out) h1 h2
  have HC := Lib.hid hC
  have HX1 := Lib.hid X1
  have HX2 := Lib.hid X2
  have y0 : w2.cell? ⟨w.heap.size + 1, 0, none⟩ = some (.bool u.contract) := (cells_at X1 0).trans rfl
  have y1 : w2.cell? ⟨w.heap.size + 1, 1, none⟩ = some (.string (str u.name)) := (cells_at X1 1).trans rfl
  have y2 : w2.cell? ⟨w.heap.size + 1, 2, none⟩ = some (.slice Ai u.ins.length ci) := (cells_at X1 2).trans rfl
  have y3 : w2.cell? ⟨w.heap.size + 1, 3, none⟩ = some (.string (str u.out.name)) := (cells_at X1 3).trans rfl
  have y4 : w2.cell? ⟨w.heap.size + 1, 4, none⟩ = some (.int .i64 u.out.ty) := (cells_at X1 4).trans rfl
  have y5 : w2.cell? ⟨w.heap.size + 1, 5, none⟩ = some (.slice Av u.vars.length cv) := (cells_at X1 5).trans rfl
  have y6 : w2.cell? ⟨w.heap.size + 1, 6, none⟩ = some (.slice Aq u.eqs.length cq) := (cells_at X1 6).trans rfl
  have y7 : w2.cell? ⟨w.heap.size + 1, 7, none⟩ = some (.slice Al u.items.length cl) := (cells_at X1 7).trans rfl
  have HB2 := Lib.hid hb2
  have HM1 := Lib.hid hm1
  have HN2S := Lib.hid n2s
  have HW1 := Lib.hid hw1
  have HW2 := Lib.hid hw2
  have HNW : Hid (∀ W, Below w.heap.size w W → NodAt W (.map nr) n2 g) := Lib.hid (fun W h => hN.below h)
  have HTW : Hid (∀ W, Below w.heap.size w W → ShAt W) := Lib.hid (fun W h => hT.below h hT.1)
  obtain ⟨R, hR⟩ : ∃ R, unitM g u = R := ⟨_, rfl⟩
  have HR := Lib.hid (show (if itemsM (strOf (streamsM u)) u.items ≠ 0 then itemsM (strOf (streamsM u)) u.items else eqnsM ⟨strOf (streamsM u), g⟩ u.eqs) = R from hR)
  rw [hR]
  have HLL : Hid ((streamsM u).length ≤ 2001) := Lib.hid (by
    unfold streamsM
    split
    · omega
    · simp; omega)
  have n1' : ((w.alloc (.cells #[.map none, (.map nr)] 60)).alloc (.cells #[.bool u.contract, .string (str u.name), .slice Ai u.ins.length ci, .string (str u.out.name), .int .i64 u.out.ty, .slice Av u.vars.length cv, .slice Aq u.eqs.length cq, .slice Al u.items.length cl] 49)).heap.size = w.heap.size + 2 := by simp
  obtain ⟨L, hL⟩ : ∃ L, streamsM u = L := ⟨_, rfl⟩
  rw [hL] at HC HR HLL
  clear n1' hR hN hT hC hm1 hb2 hb1 hb12 N N2 X0 X1 X2 l1 l2 hL h1 h2
  go_enter Tryz.func15, Tryz.ntmps15
  go_wp2_with fail
  refine HC.out.mono ?_
  rintro r w3 ⟨lv, rfl, hrow, hb3⟩
  have HB23 := Lib.hid hb3
  have HB3 : Hid (Below w.heap.size w w3) := Lib.hid (HB2.out.trans (hb3.mono HB2.out.size))
  have HROW := Lib.hid hrow
  have hs3 := hb3.size
  have HX2c : Hid (w3.heap[w.heap.size + 2 + 1]? = some (.cells #[.map (some (w.heap.size + 2)), .map nr] 60 (0, 0))) := Lib.hid ((hb3.block _ (by have := HN2S.out; omega)).trans HX2.out)
  have HX1c : Hid (w3.heap[w.heap.size + 1]? = some (.cells #[.bool u.contract, .string (str u.name), .slice Ai u.ins.length ci, .string (str u.out.name), .int .i64 u.out.ty, .slice Av u.vars.length cv, .slice Aq u.eqs.length cq, .slice Al u.items.length cl] 49 (0, 0))) := Lib.hid ((hb3.block _ (by have := HN2S.out; omega)).trans HX1.out)
  have HM3 : Hid (MapIs w3 (w.heap.size + 2) 0 (fun s => (strOf (L.take 0) s).map (Value.int .i64 ·))) := Lib.hid (HM1.out.below hb3 (by have := HN2S.out; omega))
  have hmb : ∀ g o v, w3.cell? ⟨g, o, none⟩ = some v → g ≠ w.heap.size + 2 := fun g o v h hg => by
    subst hg
    obtain ⟨D, ⟨es, clock, hh, _⟩, _⟩ := HM3.out
    simp [World.cell?, hh] at h
  have HMB := Lib.hid hmb
  obtain ⟨A0, c0, rfl, r1, r2, -⟩ := rown_form hrow
  unfold maxLen at r2
  have HSZ3 : Hid (w.heap.size + 4 ≤ w3.heap.size) := Lib.hid (by have := HN2S.out; omega)
  clear hrow hb3 hmb hw1 hw2 y0 y1 y2 y3 y4 y5 y6 y7 x00 n1 n2s hs3
  go_wp2
  go_loopw [22] (fun i wr => ∃ k : Nat, k ≤ L.length ∧ i = .int .i64 k ∧ StrAt wr (.map (some (w.heap.size + 2))) k (strOf (L.take k)) ∧ w3.grownBy wr (some (w.heap.size + 2))) (fun i _ => L.length - (intOf i).toNat)
  case atStart => exact ⟨0, Nat.zero_le _, rfl, ⟨_, rfl, HM3.out⟩, ⟨rfl, rfl, rfl, Nat.le_refl _, fun _ _ _ => rfl⟩⟩
  case round =>
    obtain ⟨k, hk, rfl, hS, hg⟩ := hrel
    have HS := Lib.hid hS
    have HG := Lib.hid hg
    have hsz := hg.size
    have hz3 := HSZ3.out
    have hX := (hg.block (w.heap.size + 2 + 1) (by omega) (by simp)).trans HX2c.out
    have HX := Lib.hid hX
    have p0 : wr.cell? ⟨w.heap.size + 2 + 1, 0, none⟩ = some (.map (some (w.heap.size + 2))) := (cells_at hX 0).trans rfl
    have p1 : wr.cell? ⟨w.heap.size + 2 + 1, 1, none⟩ = some (.map nr) := (cells_at hX 1).trans rfl
    have lX := lt_of_block hX
    by_cases hlt : k < L.length
    · obtain ⟨p, hp⟩ : ∃ p, L[k]? = some p := ⟨_, List.getElem?_eq_getElem hlt⟩
      obtain ⟨gg, o, c', x, hv', hgl, hpx, hxl, hcell⟩ := rown_at HROW.out hp
      simp only [Value.slice.injEq, true_and] at hv'
      obtain ⟨rfl, rfl⟩ := hv'
      obtain ⟨rfl, hpn⟩ := hpx
      have hc0 : w3.cell? ⟨gg, o + k * 2 + 0, none⟩ = some (.string (str p.name)) := hcell 0 (by omega)
      have hne : gg ≠ w.heap.size + 2 := HMB.out _ _ _ hc0
      have hbk := hg.block gg hgl (by simpa using hne)
      have q0 : wr.cell? ⟨gg, o + k * 2 + 0, none⟩ = some (.string (str p.name)) := (World.cell?_of_block (w := w3) (a := ⟨gg, _, none⟩) hbk).trans hc0
      have q1 : wr.cell? ⟨gg, o + k * 2 + 1, none⟩ = some (.int .i64 p.ty) := (World.cell?_of_block (w := w3) (a := ⟨gg, _, none⟩) hbk).trans (hcell 1 (by omega))
      rw [Nat.add_zero] at q0
      have hgr : gg < wr.heap.size := by omega
      obtain ⟨w4, hw4⟩ : ∃ W, wr.alloc (.cells #[.string (str p.name), .int .i64 p.ty] 45) = W := ⟨_, rfl⟩
      have hb4 : Below wr.heap.size wr w4 := hw4 ▸ below_new wr _
      have hll := HLL.out
      have HC4 := Lib.hid (addS_any (w.heap.size + 2) (.map nr) k (strOf (L.take k)) p w4 (hS.below hb4) (by unfold maxLen; omega) hpn)
      have HNX := Lib.hid (strOf_next L k p hp)
      have HW4 := Lib.hid hw4
      have HB4 := Lib.hid hb4
      clear hp hcell hS hg hX hw4 hb4 hc0 hbk
      go_wp2_with fail
      rw [HW4.out]
      go_wp2_with fail
      refine HC4.out.mono ?_
      rintro r w5 ⟨rfl, hS5, hs5, hg5⟩
      rw [← HNX.out] at hS5
      have HS5 := Lib.hid hS5
      have HG5 : Hid (w3.grownBy w5 (some (w.heap.size + 2))) := Lib.hid (grown_tr HG.out (grown_tr (grown_of (w.heap.size + 2) HB4.out) hg5))
      clear hS5 hg5
      go_wp2
      refine ⟨⟨k + 1, by omega, by go_num, HS5.out, HG5.out⟩, by simp [intOf]; omega⟩
    · have hkl : k = L.length := by omega
      subst hkl
      have HSL : Hid (StrAt wr (.map (some (w.heap.size + 2))) L.length (strOf L)) := Lib.hid (by have := HS.out; rw [List.take_length] at this; exact this)
      have hml : MapIs wr (w.heap.size + 2) L.length (fun s => (strOf L s).map (Value.int .i64 ·)) := by
        obtain ⟨b', hb', hm'⟩ := HSL.out
        simp only [Value.map.injEq, Option.some.injEq] at hb'
        subst hb'
        exact hm'
      have HCL : Hid (Calls Tryz.prog 44 #[.map (some (w.heap.size + 2))] wr fun e w' => ∃ m, e = .returned (.map (some m)) ∧ wr.heap.size ≤ m ∧ MapIs w' m L.length (fun s => (strOf L s).map (Value.int .i64 ·)) ∧ Below wr.heap.size wr w') := Lib.hid ((clone_any (w.heap.size + 2) L.length _ wr hml).mono (fun e w' hh => ⟨_, hh.1, Nat.le_refl _, hh.2⟩))
      have HX1r : Hid (wr.heap[w.heap.size + 1]? = some (.cells #[.bool u.contract, .string (str u.name), .slice Ai u.ins.length ci, .string (str u.out.name), .int .i64 u.out.ty, .slice Av u.vars.length cv, .slice Aq u.eqs.length cq, .slice Al u.items.length cl] 49 (0, 0))) := Lib.hid ((hg.block (w.heap.size + 1) (by omega) (by simp)).trans HX1c.out)
      have HBr : Hid (Below w.heap.size w wr) := Lib.hid (HB3.out.grown hg (by omega) (fun j hj => by cases hj; omega))
      have hwrs : w.heap.size + 4 ≤ wr.heap.size := by omega
      clear hS hg hX HS hml
      go_wp2_with fail
      refine HCL.out.mono ?_
      rintro r w5 ⟨m2, rfl, hm2, hm5, hb5⟩
      obtain ⟨w6, hw6⟩ : ∃ W, w5.alloc (.cells #[.map (some m2), .map none] 60) = W := ⟨_, rfl⟩
      have hb6 : Below w5.heap.size w5 w6 := hw6 ▸ below_new w5 _
      have hb56 : Below wr.heap.size wr w6 := hb5.trans (hb6.mono hb5.size)
      have hX6 : w6.heap[w5.heap.size]? = some (.cells #[.map (some m2), .map none] 60 (0, 0)) := hw6 ▸ heap_alloc_new w5 _
      have hm5l := hm5.lt
      have hs6 := hb6.size
      have HS6 : Hid (StrAt w6 (.map (some m2)) L.length (strOf L)) := Lib.hid ⟨_, rfl, hm5.below hb6 hm5l⟩
      have HSL6 : Hid (StrAt w6 (.map (some (w.heap.size + 2))) L.length (strOf L)) := Lib.hid (HSL.out.below hb56)
      have HX6 := Lib.hid hX6
      have l6 := lt_of_block hX6
      have HX16 : Hid (w6.heap[w.heap.size + 1]? = some (.cells #[.bool u.contract, .string (str u.name), .slice Ai u.ins.length ci, .string (str u.out.name), .int .i64 u.out.ty, .slice Av u.vars.length cv, .slice Aq u.eqs.length cq, .slice Al u.items.length cl] 49 (0, 0))) := Lib.hid ((hb56.block _ (by omega)).trans HX1r.out)
      have HX26 : Hid (w6.heap[w.heap.size + 2 + 1]? = some (.cells #[.map (some (w.heap.size + 2)), .map nr] 60 (0, 0))) := Lib.hid ((hb56.block _ (by omega)).trans HX.out)
      have HB6 : Hid (Below w.heap.size w w6) := Lib.hid (HBr.out.trans (hb56.mono HBr.out.size))
      have hX15 : w5.heap[w.heap.size + 1]? = some (.cells #[.bool u.contract, .string (str u.name), .slice Ai u.ins.length ci, .string (str u.out.name), .int .i64 u.out.ty, .slice Av u.vars.length cv, .slice Aq u.eqs.length cq, .slice Al u.items.length cl] 49 (0, 0)) := (hb5.block _ (by omega)).trans HX1r.out
      have z7 : w5.cell? ⟨w.heap.size + 1, 7, none⟩ = some (.slice Al u.items.length cl) := (cells_at hX15 7).trans rfl
      have l15 := lt_of_block hX15
      have y7 : w6.cell? ⟨w.heap.size + 1, 7, none⟩ = some (.slice Al u.items.length cl) := (cells_at HX16.out 7).trans rfl
      have y6 : w6.cell? ⟨w.heap.size + 1, 6, none⟩ = some (.slice Aq u.eqs.length cq) := (cells_at HX16.out 6).trans rfl
      have HW6 := Lib.hid hw6
      have hs56 := hb56.size
      have hm26 : m2 < w6.heap.size := by omega
      have h5w : m2 < w5.heap.size := hm5l
      have hmw : w.heap.size + 4 ≤ m2 := by omega
      have HRE : Hid (itemsM (strOf L) u.items ≠ 0 → R = itemsM (strOf L) u.items) := Lib.hid (fun h => by rw [← HR.out, if_pos h])
      have HRZ : Hid (itemsM (strOf L) u.items = 0 → R = eqnsM ⟨strOf L, g⟩ u.eqs) := Lib.hid (fun h => by rw [← HR.out, if_neg (by simp [h])])
      clear hm2 hm5 hb5 hb6 hb56 hX6 hX15 hw6 p0 p1 y7 y6
      go_wp2
      rw [HW6.out]
      go_loopw [37] (fun i wq => ∃ (k : Nat) (fk : Bytes → Option Int), k ≤ u.items.length ∧ i = .int .i64 k ∧ StrAt wq (.map (some m2)) (L.length + k) fk ∧ w6.grownBy wq (some m2) ∧ Hid (itemsM fk (u.items.drop k) = itemsM (strOf L) u.items)) (fun i _ => u.items.length - (intOf i).toNat)
      case atStart => exact ⟨0, strOf L, Nat.zero_le _, rfl, HS6.out, ⟨rfl, rfl, rfl, Nat.le_refl _, fun _ _ _ => rfl⟩, Lib.hid rfl⟩
      case round =>
        obtain ⟨k, fk, hk, rfl, hS, hg, hR2⟩ := hrel
        have HSk := Lib.hid hS
        have HGk := Lib.hid hg
        have hszk := hg.size
        have HBk : Hid (Below w.heap.size w wr) := Lib.hid (HB6.out.grown hg (by have := HB6.out.size; omega) (fun j hj => by cases hj; omega))
        have hX6r := (hg.block w5.heap.size l6 (by simp; omega)).trans HX6.out
        have p0 : wr.cell? ⟨w5.heap.size, 0, none⟩ = some (.map (some m2)) := (cells_at hX6r 0).trans rfl
        have p1 : wr.cell? ⟨w5.heap.size, 1, none⟩ = some (.map none) := (cells_at hX6r 1).trans rfl
        have hX2r := (hg.block (w.heap.size + 2 + 1) (by omega) (by simp; omega)).trans HX26.out
        have hX1r := (hg.block (w.heap.size + 1) (by omega) (by simp; omega)).trans HX16.out
        have HX2r := Lib.hid hX2r
        have lX6 := lt_of_block hX6r
        have y6 : wr.cell? ⟨w.heap.size + 1, 6, none⟩ = some (.slice Aq u.eqs.length cq) := (cells_at hX1r 6).trans rfl
        have lX1 := lt_of_block hX1r
        by_cases hlt : k < u.items.length
        · obtain ⟨it, hit⟩ : ∃ it, u.items[k]? = some it := ⟨_, List.getElem?_eq_getElem hlt⟩
          obtain ⟨gg, o, c', xs, hv', hgl, hpx, hxl, hcell⟩ := rown_at U4.out hit
          simp only [Value.slice.injEq, true_and] at hv'
          obtain ⟨rfl, rfl⟩ := hv'
          have HPX := Lib.hid hpx
          obtain ⟨ev, fv, Aa, na, ca, rfl, hev, hfv, -⟩ := hpx
          have q : ∀ j, j < 6 → wr.cell? ⟨gg, o + k * 6 + j, none⟩ = _ := fun j hj => (HBk.out.cell (p := ⟨gg, o + k * 6 + j, none⟩) hgl).trans (hcell j hj)
          have q0 : wr.cell? ⟨gg, o + k * 6, none⟩ = some (.int .i64 it.kind) := q 0 (by omega)
          have q1 : wr.cell? ⟨gg, o + k * 6 + 1, none⟩ = some (.string (str it.name)) := q 1 (by omega)
          have q2 : wr.cell? ⟨gg, o + k * 6 + 2, none⟩ = some (.int .i64 it.ty) := q 2 (by omega)
          have q3 : wr.cell? ⟨gg, o + k * 6 + 3, none⟩ = some ev := q 3 (by omega)
          have q4 : wr.cell? ⟨gg, o + k * 6 + 4, none⟩ = some fv := q 4 (by omega)
          have q5 : wr.cell? ⟨gg, o + k * 6 + 5, none⟩ = some (.slice Aa na ca) := q 5 (by omega)
          obtain ⟨Ae, ce, rfl, -⟩ := hev
          obtain ⟨Af, cf, rfl, -⟩ := hfv
          have hgr : gg < wr.heap.size := by have := HBk.out.size; omega
          obtain ⟨w7, hw7⟩ : ∃ W, wr.alloc (.cells #[.int .i64 it.kind, .string (str it.name), .int .i64 it.ty, .slice Ae it.e.length ce, .slice Af it.f.length cf, .slice Aa na ca] 53) = W := ⟨_, rfl⟩
          have hb7 : Below wr.heap.size wr w7 := hw7 ▸ below_new wr _
          have hbw7 : Below w.heap.size w w7 := HBk.out.trans (hb7.mono HBk.out.size)
          have hll := HLL.out
          have HC7 := Lib.hid (item_any m2 (L.length + k) fk it _ w7 (hS.below hb7) (HTW.out w7 hbw7) (Ow.ItmN.below hbw7 _ _ HPX.out) (by unfold maxLen; omega))
          have HD : Hid ((if itemM ⟨fk, noN⟩ it ≠ 0 then itemM ⟨fk, noN⟩ it else itemsM (nextF fk it) (u.items.drop (k + 1))) = itemsM (strOf L) u.items) := Lib.hid (by rw [← hR2.out, drop_at hit]; rfl)
          obtain ⟨z, hz⟩ : ∃ z, itemM ⟨fk, noN⟩ it = z := ⟨_, rfl⟩
          rw [hz] at HC7 HD
          have HW7 := Lib.hid hw7
          have HB7 := Lib.hid hb7
          have HBW7 := Lib.hid hbw7
          clear hit hcell hS hg hX6r hX2r hX1r hw7 hb7 hbw7 q hR2 hz
          go_wp2_with fail
          rw [HW7.out]
          go_wp2_with fail
          refine HC7.out.mono ?_
          rintro r w8 ⟨rfl, hS8, hs8, hg8⟩
          have HS8 := Lib.hid hS8
          have HG8 : Hid (w6.grownBy w8 (some m2)) := Lib.hid (grown_tr HGk.out (grown_tr (grown_of m2 HB7.out) hg8))
          have HB8 : Hid (Below w.heap.size w w8) := Lib.hid (HBW7.out.grown hg8 HBW7.out.size (fun j hj => by cases hj; omega))
          clear hS8 hg8
          by_cases hz0 : z = 0
          · subst hz0
            have HN2 : Hid (itemsM (nextF fk it) (u.items.drop (k + 1)) = itemsM (strOf L) u.items) := Lib.hid (by have := HD.out; rw [if_neg (by simp)] at this; exact this)
            go_wp2
            refine ⟨⟨k + 1, nextF fk it, by omega, by go_num, by rw [← Nat.add_assoc]; exact HS8.out, HG8.out, HN2⟩, by simp [intOf]; omega⟩
          · have hzb : (z != 0) = true := by simpa using hz0
            have HRR : Hid (R = z) := Lib.hid (by
              have h := HD.out
              rw [if_pos hz0] at h
              rw [HRE.out (by rw [← h]; exact hz0), ← h])
            clear hz0
            go_wp2
            go_ret
            exact err_p HRR.out HB8.out
        · have hkl : k = u.items.length := by omega
          subst hkl
          have HRR : Hid (eqnsM ⟨strOf L, g⟩ (u.eqs.drop 0) = R) := Lib.hid (by
            rw [HRZ.out (by rw [← hR2.out, List.drop_length]; rfl)]; rfl)
          have HSLr : Hid (StrAt wr (.map (some (w.heap.size + 2))) L.length (strOf L)) := Lib.hid (by
            obtain ⟨b', hb', hm'⟩ := HSL6.out
            simp only [Value.map.injEq, Option.some.injEq] at hb'
            subst hb'
            exact ⟨_, rfl, hm'.grown hg (by simp; omega)⟩)
          clear hS hg hX6r hX2r hX1r hR2 p0 p1
          go_wp2
          go_loopw [51] (fun i wq => ∃ k : Nat, k ≤ u.eqs.length ∧ i = .int .i64 k ∧ StrAt wq (.map (some (w.heap.size + 2))) L.length (strOf L) ∧ Below w.heap.size w wq ∧ wq.heap[w.heap.size + 2 + 1]? = some (.cells #[.map (some (w.heap.size + 2)), .map nr] 60 (0, 0)) ∧ Hid (eqnsM ⟨strOf L, g⟩ (u.eqs.drop k) = R)) (fun i _ => u.eqs.length - (intOf i).toNat)
          case atStart => exact ⟨0, Nat.zero_le _, rfl, HSLr.out, HBk.out, HX2r.out, HRR⟩
          case round =>
            obtain ⟨k, hk, rfl, hS, hb, hX, hRk⟩ := hrel
            have HSq := Lib.hid hS
            have HBq := Lib.hid hb
            have HXq := Lib.hid hX
            have lX := lt_of_block hX
            have p0 : wr.cell? ⟨w.heap.size + 2 + 1, 0, none⟩ = some (.map (some (w.heap.size + 2))) := (cells_at hX 0).trans rfl
            have p1 : wr.cell? ⟨w.heap.size + 2 + 1, 1, none⟩ = some (.map nr) := (cells_at hX 1).trans rfl
            by_cases hlt : k < u.eqs.length
            · obtain ⟨q, hq⟩ : ∃ q, u.eqs[k]? = some q := ⟨_, List.getElem?_eq_getElem hlt⟩
              obtain ⟨gg, o, c', xs, hv', hgl, hpx, hxl, hcell⟩ := rown_at U3.out hq
              simp only [Value.slice.injEq, true_and] at hv'
              obtain ⟨rfl, rfl⟩ := hv'
              have HPX := Lib.hid hpx
              obtain ⟨ev, rfl, hev, -⟩ := hpx
              have q0 : wr.cell? ⟨gg, o + k * 2 + 0, none⟩ = some (.string (str q.name)) := (hb.cell (p := ⟨gg, o + k * 2 + 0, none⟩) hgl).trans (hcell 0 (by omega))
              have q1 : wr.cell? ⟨gg, o + k * 2 + 1, none⟩ = some ev := (hb.cell (p := ⟨gg, o + k * 2 + 1, none⟩) hgl).trans (hcell 1 (by omega))
              rw [Nat.add_zero] at q0
              obtain ⟨Ae, ce, rfl, -⟩ := hev
              have hgr : gg < wr.heap.size := by have := hb.size; omega
              obtain ⟨w7, hw7⟩ : ∃ W, wr.alloc (.cells #[.string (str q.name), .slice Ae q.e.length ce] 51) = W := ⟨_, rfl⟩
              have hb7 : Below wr.heap.size wr w7 := hw7 ▸ below_new wr _
              have hbw7 : Below w.heap.size w w7 := hb.trans (hb7.mono hb.size)
              have HC7 := Lib.hid (eqn_any (.map (some (w.heap.size + 2))) (.map nr) L.length n2 ⟨strOf L, g⟩ q _ w7 (hS.below hb7) (HNW.out w7 hbw7) (HTW.out w7 hbw7) (Ow.EqnN.below hbw7 _ _ HPX.out))
              have HD : Hid ((if eqnM ⟨strOf L, g⟩ q ≠ 0 then eqnM ⟨strOf L, g⟩ q else eqnsM ⟨strOf L, g⟩ (u.eqs.drop (k + 1))) = R) := Lib.hid (by rw [← hRk.out, drop_at hq]; rfl)
              obtain ⟨z, hz⟩ : ∃ z, eqnM ⟨strOf L, g⟩ q = z := ⟨_, rfl⟩
              rw [hz] at HC7 HD
              have HW7 := Lib.hid hw7
              have HB7 := Lib.hid hb7
              have HBW7 := Lib.hid hbw7
              clear hq hcell hS hb hX hw7 hb7 hbw7 hRk hz
              go_wp2_with fail
              rw [HW7.out]
              go_wp2_with fail
              refine HC7.out.mono ?_
              rintro r w8 ⟨rfl, hb8⟩
              have HB78 : Hid (Below wr.heap.size wr w8) := Lib.hid (HB7.out.trans (hb8.mono HB7.out.size))
              have HB8 : Hid (Below w.heap.size w w8) := Lib.hid (HBW7.out.trans (hb8.mono HBW7.out.size))
              clear hb8
              by_cases hz0 : z = 0
              · subst hz0
                have HN2 : Hid (eqnsM ⟨strOf L, g⟩ (u.eqs.drop (k + 1)) = R) := Lib.hid (by have := HD.out; rw [if_neg (by simp)] at this; exact this)
                go_wp2
                refine ⟨⟨k + 1, by omega, by go_num, HSq.out.below HB78.out, HB8.out, (HB78.out.block _ lX).trans HXq.out, HN2⟩, by simp [intOf]; omega⟩
              · have hzb : (z != 0) = true := by simpa using hz0
                have HRR2 : Hid (R = z) := Lib.hid (by have h := HD.out; rw [if_pos hz0] at h; exact h.symm)
                clear hz0
                go_wp2
                go_ret
                exact err_p HRR2.out HB8.out
            · have hkl : k = u.eqs.length := by omega
              subst hkl
              have HRR2 : Hid (R = 0) := Lib.hid (by rw [← hRk.out, List.drop_length]; rfl)
              clear hS hb hX hRk
              go_wp2
              go_ret
              exact err_p HRR2.out HBq.out
end Go.Proofs.YtobkcdkffcenbaaGreatDoor.Ty

