/- Layer types: what an operator is of that hangs on no name, by the table. Conditions: the table lies in memory. -/
import Derived.Test.YtobkcdkffcenbaaGreatDoorSa02
import Derived.BigQuiet
import Derived.Deep.RegionHeld3
set_option linter.unusedVariables false
set_option linter.unusedSimpArgs false
namespace Go.Proofs.YtobkcdkffcenbaaGreatDoor.Ty
open Go.ChangeShapes Go.WideShapes Go.ChangeAt Go.RowKit
open Go.Proofs.YtobkcdkffcenbaaGreatDoor.Tr
def shapesM : List (Int × Int × Int × Int) := [(0, 0, 0, 0), (0, 0, 0, 2), (0, 0, 0, 1), (0, 0, 0, 0), (1, 0, 0, 1), (2, 0, 0, 2), (1, 1, 0, 1), (1, 1, 0, 1), (1, 1, 0, 1), (1, 1, 0, 1), (3, 3, 0, 1), (3, 3, 0, 1), (2, 2, 0, 1), (2, 2, 0, 1), (2, 2, 0, 2), (2, 2, 0, 2), (2, 2, 0, 2), (2, 2, 0, 2), (2, 2, 0, 2), (3, 3, 0, 3), (1, 1, 0, 1), (3, 0, 0, 3), (1, 0, 0, 1), (1, 0, 0, 1), (1, 0, 0, 1), (1, 0, 0, 1), (1, 3, 3, 3)]
def shapeAt (k : Nat) : Int × Int × Int × Int := shapesM.getD k (0, 0, 0, 0)
def ShAt (w : World) : Prop := 0 < w.heap.size ∧ ∀ k : Nat, k < 27 → w.cell? ⟨0, k * 4, none⟩ = some (.int .i64 (shapeAt k).1) ∧ w.cell? ⟨0, k * 4 + 1, none⟩ = some (.int .i64 (shapeAt k).2.1) ∧ w.cell? ⟨0, k * 4 + 2, none⟩ = some (.int .i64 (shapeAt k).2.2.1) ∧ w.cell? ⟨0, k * 4 + 3, none⟩ = some (.int .i64 (shapeAt k).2.2.2)
theorem ShAt.below {w w' : World} {B : Nat} (h : ShAt w) (hb : Below B w w') (hB : 0 < B) : ShAt w' :=
  ⟨by have := hb.size; have := h.1; omega, fun k hk => by
    obtain ⟨a, b, c, d⟩ := h.2 k hk
    exact ⟨(hb.cell (p := ⟨0, k * 4, none⟩) hB).trans a, (hb.cell (p := ⟨0, k * 4 + 1, none⟩) hB).trans b, (hb.cell (p := ⟨0, k * 4 + 2, none⟩) hB).trans c, (hb.cell (p := ⟨0, k * 4 + 3, none⟩) hB).trans d⟩⟩
def typeAtM (l : List Int) (p : Int) : Int := if p = 3 then l.getD (l.length - 1) 0 else p
def takesM (t : Int × Int × Int × Int) (i : Nat) : Int := if i = 0 then t.1 else if i = 1 then t.2.1 else t.2.2.1
def fitM (t : Int × Int × Int × Int) (l : List Int) : Nat → Bool
  | 0 => true
  | k + 1 => fitM t l k && (l.getD k 0 == typeAtM l (takesM t k))
def madeM (t : Int × Int × Int × Int) (l : List Int) : Int × Int := if fitM t l l.length = true then (typeAtM l t.2.2.2, 0) else (0, 10)
def ansY (r : Except Int Ty) : Int × Int := match r with | .ok t => (t.1, 0) | .error c => (0, c)
theorem made_step (E : Env) (x : Lab) (l : List Ty) (h : plainB x = true) (hf : fitsB x.op l.length = true) (h3 : x.op ≠ 3) (h27 : x.op ≠ 27) (h28 : x.op ≠ 28) : madeM (shapeAt x.op.toNat) (l.map (·.1)) = ansY (stepY E x l) := by
  obtain ⟨op, n, s⟩ := x
  simp only at h3 h27 h28 hf ⊢
  have hr : 1 ≤ op ∧ op ≤ 28 := by unfold plainB at h; simp at h; exact h.1.1.1
  clear h
  have hop : op = 1 ∨ op = 2 ∨ op = 4 ∨ op = 5 ∨ op = 6 ∨ op = 7 ∨ op = 8 ∨ op = 9 ∨ op = 10 ∨ op = 11 ∨ op = 12 ∨ op = 13 ∨ op = 14 ∨ op = 15 ∨ op = 16 ∨ op = 17 ∨ op = 18 ∨ op = 19 ∨ op = 20 ∨ op = 21 ∨ op = 22 ∨ op = 23 ∨ op = 24 ∨ op = 25 ∨ op = 26 := by omega
  clear hr h3 h27 h28
  rcases hop with rfl | rfl | rfl | rfl | rfl | rfl | rfl | rfl | rfl | rfl | rfl | rfl | rfl | rfl | rfl | rfl | rfl | rfl | rfl | rfl | rfl | rfl | rfl | rfl | rfl
  all_goals
    match l, hf with
    | [], hf => first | (exfalso; revert hf; simp [fitsB, unaryB, binaryB]; done) | rfl
    | [a], hf => first
        | (exfalso; revert hf; simp [fitsB, unaryB, binaryB]; done)
        | (by_cases ha : a.1 = 1 <;> by_cases hb : a.1 = 2 <;> simp [madeM, fitM, shapeAt, shapesM, takesM, typeAtM, stepY, shapeY, ansY, ha, hb, Except.map])
    | [a, b], hf => first
        | (exfalso; revert hf; simp [fitsB, unaryB, binaryB]; done)
        | (by_cases ha : a.1 = 1 <;> by_cases hb : b.1 = 1 <;> by_cases ha2 : a.1 = 2 <;> by_cases hb2 : b.1 = 2 <;> by_cases hab : a.1 = b.1 <;> simp_all [madeM, fitM, shapeAt, shapesM, takesM, typeAtM, stepY, shapeY, ansY, Except.map])
    | [a, b, c], hf => first
        | (exfalso; revert hf; simp [fitsB, unaryB, binaryB]; done)
        | (by_cases ha : a.1 = 1 <;> by_cases hbc : b.1 = c.1 <;> simp_all [madeM, fitM, shapeAt, shapesM, takesM, typeAtM, stepY, shapeY, ansY, Except.map])
    | _ :: _ :: _ :: _ :: _, hf => exact absurd hf (by simp [fitsB, unaryB, binaryB])
end Go.Proofs.YtobkcdkffcenbaaGreatDoor.Ty

/- Layer types: the function made. Conditions: the slice is read as a list of at most three numbers. -/
namespace Go.Proofs.YtobkcdkffcenbaaGreatDoor.Ty
open Go.ChangeShapes Go.WideShapes Go.ChangeAt Go.RowKit
open Go.Proofs.YtobkcdkffcenbaaGreatDoor.Tr
set_option maxHeartbeats 1600000 in
theorem typeAt_any (p : Int) (a : Addr) (v : Value) (l : List Int) (w : World) (h : w.cell? a = some v) (hv : Ints w v l) (hl : l.length ≤ 1000) (h3 : p = 3 → l ≠ []) :
    Calls Tryz.prog 92 #[.int .i64 p, .pointer (some a)] w (fun e w' => e = .returned (.int .i64 (typeAtM l p)) ∧ Below w.heap.size w w') := by
  obtain ⟨A, c, rfl, h1, h2, hA⟩ := hv
  unfold maxLen at h2
  by_cases hp : p = 3
  · subst hp
    have hne := h3 rfl
    have hpos : 0 < l.length := List.length_pos_iff.2 hne
    obtain ⟨y, hy⟩ : ∃ y, l[l.length - 1]? = some y := ⟨_, List.getElem?_eq_getElem (by omega)⟩
    obtain ⟨g, o, rfl, hg, a0⟩ := hA _ y hy
    have e2 : (l.length : Int) - 1 = ((l.length - 1 : Nat) : Int) := by omega
    have HE : Hid (typeAtM l 3 = y) := Lib.hid (by unfold typeAtM; rw [if_pos rfl]; simp [List.getD, hy])
    have hlt : l.length - 1 < l.length := by omega
    clear hA hy hne h3
    go_enter Tryz.func92, Tryz.ntmps92
    go_wp2
    rw [HE.out]
    go_ret
    exact ⟨rfl, Below.refl _ _⟩
  · have hpb : (p == 3) = false := by simpa using hp
    have HE : Hid (typeAtM l p = p) := Lib.hid (by unfold typeAtM; rw [if_neg hp])
    clear hA h3
    rw [HE.out]
    go_enter Tryz.func92, Tryz.ntmps92
    go_wp2
    go_ret
    exact ⟨rfl, Below.refl _ _⟩
theorem fit_no {t : Int × Int × Int × Int} {l : List Int} {k : Nat} (h : fitM t l k = false) : ∀ m, k ≤ m → fitM t l m = false := by
  intro m hm
  induction m with
  | zero => have : k = 0 := by omega
            subst this; exact h
  | succ m ih =>
    by_cases hk : k = m + 1
    · subst hk; exact h
    · unfold fitM; rw [ih (by omega)]; rfl
set_option maxRecDepth 100000 in
set_option maxHeartbeats 4000000 in
theorem made_any (t : Int × Int × Int × Int) (ov : Value) (l : List Int) (w : World) (hv : Ints w ov l) (hl : l.length ≤ 3) (h3 : t.2.2.2 = 3 → l ≠ []) :
    Calls Tryz.prog 74 #[.agg #[.int .i64 t.1, .int .i64 t.2.1, .int .i64 t.2.2.1, .int .i64 t.2.2.2], ov] w (TwoPost w (madeM t l)) := by
  obtain ⟨t0, t1, t2, is⟩ := t
  simp only at h3 ⊢
  have hmf : ∀ (fn : Fn) (first cap : Array Value) (w : World), (Instr.makeFunc fn first cap).run Tryz.prog w = .ok (.func fn first cap) w := fun _ _ _ _ => rfl
  obtain ⟨A, c, rfl, h1, h2, hA⟩ := hv
  have HV0 : Hid (Ints w (.slice A l.length c) l) := Lib.hid ⟨A, c, rfl, h1, h2, hA⟩
  unfold maxLen at h2
  have N := news_two w (.cells #[.int .i64 t0, .int .i64 t1, .int .i64 t2, .int .i64 is] 126) (.cells #[.slice A l.length c] 72)
  obtain ⟨w1, hw1⟩ : ∃ W, (w.alloc (.cells #[.int .i64 t0, .int .i64 t1, .int .i64 t2, .int .i64 is] 126)).alloc (.cells #[.slice A l.length c] 72) = W := ⟨_, rfl⟩
  rw [hw1] at N
  have HB1 := Lib.hid N.1
  have HT := Lib.hid N.2.1
  have HO := Lib.hid N.2.2
  have lt1 := lt_of_block N.2.1
  have lt2 := lt_of_block N.2.2
  have HA := Lib.hid hA
  obtain ⟨R, hR⟩ : ∃ R, madeM (t0, t1, t2, is) l = R := ⟨_, rfl⟩
  have HR := Lib.hid hR
  rw [hR]
  have HW1 := Lib.hid hw1
  clear hA hR N hw1
  go_enter Tryz.func74, Tryz.ntmps74
  go_wp2_with fail
  rw [HW1.out]
  go_wp2
  go_loopw [12] (fun i wr => ∃ k : Nat, k ≤ l.length ∧ i = .int .i64 k ∧ fitM (t0, t1, t2, is) l k = true ∧ Below w1.heap.size w1 wr) (fun i _ => l.length - (intOf i).toNat)
  case atStart => exact ⟨0, Nat.zero_le _, rfl, rfl, Below.refl _ _⟩
  case round =>
    obtain ⟨k, hk, rfl, hfit, hb⟩ := hrel
    have HB := Lib.hid hb
    have HF := Lib.hid hfit
    have lB := hb.size
    have hTr := (hb.block _ lt1).trans HT.out
    have hOr := (hb.block _ lt2).trans HO.out
    have p3 : wr.cell? ⟨w.heap.size + 1, 0, none⟩ = some (.slice A l.length c) := (cells_at hOr 0).trans rfl
    have HP3 := Lib.hid p3
    have HVr := Lib.hid (HV0.out.below (HB1.out.trans (hb.mono (by omega))) (Nat.le_refl _))
    by_cases hlt : k < l.length
    · obtain ⟨x, hx⟩ : ∃ x, l[k]? = some x := ⟨_, List.getElem?_eq_getElem hlt⟩
      obtain ⟨g, o, rfl, hg, a0⟩ := HA.out k x hx
      have b0 := ((HB1.out.trans (hb.mono (by omega))).cell (p := ⟨g, o + k, none⟩) hg).trans a0
      have hk3 : k < 3 := by omega
      have q0 : wr.cell? ⟨w.heap.size, k, none⟩ = some (.int .i64 (takesM (t0, t1, t2, is) k)) := by
        match k, hk3 with
        | 0, _ => exact (cells_at hTr 0).trans rfl
        | 1, _ => exact (cells_at hTr 1).trans rfl
        | 2, _ => exact (cells_at hTr 2).trans rfl
      have HC := Lib.hid (typeAt_any (takesM (t0, t1, t2, is) k) ⟨w.heap.size + 1, 0, none⟩ _ l wr HP3.out HVr.out (by omega) (fun _ h => by rw [h] at hlt; simp at hlt))
      have HNX : Hid (fitM (t0, t1, t2, is) l (k + 1) = (x == typeAtM l (takesM (t0, t1, t2, is) k))) := Lib.hid (by
        show (fitM _ l k && _) = _
        rw [HF.out, Bool.true_and]
        simp [List.getD, hx])
      obtain ⟨tk, htk⟩ : ∃ tk, takesM (t0, t1, t2, is) k = tk := ⟨_, rfl⟩
      rw [htk] at q0 HC HNX
      obtain ⟨ty, hty⟩ : ∃ ty, typeAtM l tk = ty := ⟨_, rfl⟩
      rw [hty] at HC HNX
      clear hx a0 hb hTr hOr htk hty hfit p3
      go_wp2_with fail
      refine HC.out.mono ?_
      rintro r w3 ⟨rfl, hb3⟩
      have HB3 := Lib.hid (HB.out.trans (hb3.mono lB))
      clear hb3
      by_cases hxt : x = ty
      · have hb : (x != ty) = false := by simp [hxt]
        have HNY : Hid (fitM (t0, t1, t2, is) l (k + 1) = true) := Lib.hid (by rw [HNX.out]; simp [hxt])
        clear hxt
        go_wp2
        refine ⟨⟨k + 1, by omega, by go_num, HNY.out, HB3.out⟩, by simp [intOf]; omega⟩
      · have hb : (x != ty) = true := by simpa using hxt
        have HNY : Hid (R = (0, 10)) := Lib.hid (by
          rw [← HR.out]
          unfold madeM
          rw [fit_no (k := k + 1) (by rw [HNX.out]; simpa using hxt) l.length (by omega)]
          rfl)
        clear hxt
        go_wp2
        go_ret2
        exact two_of HNY.out (HB1.out.trans (HB3.out.mono (by omega)))
    · have hkl : k = l.length := by omega
      subst hkl
      have q0 : wr.cell? ⟨w.heap.size, 3, none⟩ = some (.int .i64 is) := (cells_at hTr 3).trans rfl
      have HC := Lib.hid (typeAt_any is ⟨w.heap.size + 1, 0, none⟩ _ l wr HP3.out HVr.out (by omega) h3)
      have HNY : Hid (R = (typeAtM l is, 0)) := Lib.hid (by
        rw [← HR.out]
        unfold madeM
        rw [HF.out]; rfl)
      obtain ⟨ty, hty⟩ : ∃ ty, typeAtM l is = ty := ⟨_, rfl⟩
      rw [hty] at HC HNY
      clear hb hTr hOr hty hfit p3
      go_wp2_with fail
      refine HC.out.mono ?_
      rintro r w3 ⟨rfl, hb3⟩
      have HB3 := Lib.hid (HB.out.trans (hb3.mono lB))
      clear hb3
      go_wp2
      go_ret2
      exact two_of HNY.out (HB1.out.trans (HB3.out.mono (by omega)))
end Go.Proofs.YtobkcdkffcenbaaGreatDoor.Ty

/- Layer types: the type of a call. Conditions: the maps lie in memory. -/
namespace Go.Proofs.YtobkcdkffcenbaaGreatDoor.Ty
open Go.ChangeShapes Go.WideShapes Go.ChangeAt Go.RowKit Go.Maps
open Go.Proofs.YtobkcdkffcenbaaGreatDoor.Tr
open Go.Proofs.YtobkcdkffcenbaaGreatDoor.Pg (Prm Unt)
open Go.Proofs.YtobkcdkffcenbaaGreatDoor.Ow (PrmN UntN RowN rown_at rown_form)
abbrev zeroUnt : Value := .agg #[.bool false, .string ⟨#[]⟩, .slice none 0 0, .string ⟨#[]⟩, .int .i64 0, .slice none 0 0, .slice none 0 0, .slice none 0 0]
theorem zeroUnit (w : World) : (zeroValue 49).run Tryz.prog w = .ok zeroUnt w := by kernel_rfl
theorem NodAt.look {w : World} {v : Value} {n : Nat} {g : Bytes → Option (List Int × Int)} (h : NodAt w v n g) (s : Bytes) (hs : s.length ≤ maxLen) :
    ∃ V B, (∀ W, Below w.heap.size w W → (Instr.lookup 57 v (.string (str s)) true).run Tryz.prog W = .ok (.tuple #[V, .bool B]) W) ∧
      ((g s = none ∧ B = false ∧ V = zeroUnt) ∨ ∃ u x, UntN w u x ∧ V = .agg x.toArray ∧ B = true ∧ g s = some (u.ins.map (·.ty), u.out.ty)) := by
  rcases h with ⟨rfl, h⟩ | ⟨w0, b, rfl, hw0, -, G, hm, hG⟩
  · exact ⟨zeroUnt, false, fun W _ => Maps.look_nil true lawS Tryz.underlying57 (zeroUnit W) (key_name s hs), .inl ⟨h s, rfl, rfl⟩⟩
  · have hl : ∀ W, Below w.heap.size w W → _ := fun W hb => (hm.below hb hm.lt).look Tryz.underlying57 (zeroUnit W) s hs
    cases hs' : G s with
    | none =>
      refine ⟨zeroUnt, false, fun W hb => ?_, .inl ⟨(hG s).1 hs', rfl, rfl⟩⟩
      have := hl W hb
      simp only [hs', Option.map_none, Option.getD_none, Option.isSome_none] at this
      exact this
    | some p =>
      refine ⟨.agg p.2.toArray, true, fun W hb => ?_, .inr ⟨p.1, p.2, Ow.UntN.below hw0 _ _ ((hG s).2 p hs').1, rfl, rfl, ((hG s).2 p hs').2⟩⟩
      have := hl W hb
      simp only [hs', Option.map_some, Option.getD_some, Option.isSome_some] at this
      exact this
def callR (s : Option (List Int × Int)) (a : List Int) : Int × Int := ansY (callY s a)
set_option maxRecDepth 100000 in
set_option maxHeartbeats 4000000 in
theorem call_any (sv nv ov : Value) (n : Nat) (g : Bytes → Option (List Int × Int)) (s : Bytes) (L : List Int) (w : World) (hm : NodAt w nv n g) (hs : s.length ≤ maxLen) (hv : Ints w ov L) :
    Calls Tryz.prog 71 #[.agg #[sv, nv], .string (str s), ov] w (TwoPost w (callR (g s) L)) := by
  obtain ⟨V, B, hlk, hd⟩ := hm.look s hs
  have hl : ∀ o, (Instr.lookup 57 nv (.string (str s)) true).run Tryz.prog (w.alloc o) = .ok (.tuple #[V, .bool B]) (w.alloc o) := fun o => hlk _ (below_new w o)
  obtain ⟨R, hR⟩ : ∃ R, callR (g s) L = R := ⟨_, rfl⟩
  rw [hR]
  obtain ⟨A, c, rfl, h1, h2, hA⟩ := hv
  unfold maxLen at h2
  have HA := Lib.hid hA
  rcases hd with ⟨hg, rfl, rfl⟩ | ⟨u, x, hu, rfl, rfl, hg⟩
  · have HE : Hid (R = (0, 14)) := Lib.hid (by rw [← hR, hg]; rfl)
    clear hR hg hlk hm hA
    go_enter Tryz.func71, Tryz.ntmps71
    go_wp2
    go_ret2
    exact two_of HE.out (news_two w _ _).1
  · obtain ⟨iv, vv, qv, lv, rfl, u1, u2, u3, u4, -, -⟩ := hu
    obtain ⟨Ai, ci, hie, i1, i2, -⟩ := rown_form u1
    obtain ⟨Av, cv, hve, -, -, -⟩ := rown_form u2
    obtain ⟨Aq, cq, hqe, -, -, -⟩ := rown_form u3
    obtain ⟨Al, cl, hle, -, -, -⟩ := rown_form u4
    have HU1 := Lib.hid u1
    unfold maxLen at i2
    subst hie hve hqe hle
    have HR := Lib.hid hR
    have HG := Lib.hid hg
    clear hR hg hlk hm hA u1 u2 u3 u4
    by_cases hn : u.ins.length = L.length
    rotate_left
    · have HE : Hid (R = (0, 14)) := Lib.hid (by
        rw [← HR.out, HG.out]
        unfold callR callY
        simp only [List.length_map]
        rw [if_pos hn]; rfl)
      have hb : ((u.ins.length : Int) != (L.length : Int)) = true := by simpa using (fun h => hn (by omega))
      have hb' : (u.ins.length != L.length) = true := by simpa using hn
      clear hn
      go_enter Tryz.func71, Tryz.ntmps71
      go_wp2
      go_ret2
      exact two_of HE.out (news_two w _ _).1
    have hb : ((u.ins.length : Int) != (L.length : Int)) = false := by simp; omega
    have hb' : (u.ins.length != L.length) = false := by simp [hn]
    obtain ⟨w1, hw1⟩ : ∃ W, (w.alloc (.cells #[sv, nv] 60)).alloc (.cells #[.bool u.contract, .string (str u.name), .slice Ai u.ins.length ci, .string (str u.out.name), .int .i64 u.out.ty, .slice Av u.vars.length cv, .slice Aq u.eqs.length cq, .slice Al u.items.length cl] 49) = W := ⟨_, rfl⟩
    have N := news_two w (.cells #[sv, nv] 60) (.cells #[.bool u.contract, .string (str u.name), .slice Ai u.ins.length ci, .string (str u.out.name), .int .i64 u.out.ty, .slice Av u.vars.length cv, .slice Aq u.eqs.length cq, .slice Al u.items.length cl] 49)
    rw [hw1] at N
    have HB1 := Lib.hid N.1
    have HT := Lib.hid N.2.2
    have lt2 := lt_of_block N.2.2
    have p2 : w1.cell? ⟨w.heap.size + 1, 2, none⟩ = some (.slice Ai u.ins.length ci) := (cells_at N.2.2 2).trans rfl
    have HW1 := Lib.hid hw1
    have HN := Lib.hid hn
    clear N hw1 hn
    go_enter Tryz.func71, Tryz.ntmps71
    go_wp2_with fail
    rw [HW1.out]
    go_wp2
    go_loopw [32] (fun i wr => ∃ k : Nat, k ≤ u.ins.length ∧ i = .int .i64 k ∧ (∀ j, j < k → (u.ins.map (·.ty))[j]? = L[j]?) ∧ Below w1.heap.size w1 wr) (fun i _ => u.ins.length - (intOf i).toNat)
    case atStart => exact ⟨0, Nat.zero_le _, rfl, fun j hj => by omega, Below.refl _ _⟩
    case round =>
      obtain ⟨k, hk, rfl, hsame, hb3⟩ := hrel
      have HS := Lib.hid hsame
      have HB := Lib.hid hb3
      have lB := hb3.size
      have HBB : Hid (Below w.heap.size w wr) := Lib.hid (HB1.out.trans (hb3.mono HB1.out.size))
      by_cases hlt : k < u.ins.length
      · obtain ⟨p, hp⟩ : ∃ p, u.ins[k]? = some p := ⟨_, List.getElem?_eq_getElem hlt⟩
        obtain ⟨gg, o, c', xs, hsl, hgl, hpx, hxl, hcell⟩ := rown_at HU1.out hp
        simp only [Value.slice.injEq, true_and] at hsl
        obtain ⟨rfl, rfl⟩ := hsl
        obtain ⟨rfl, hpn⟩ := hpx
        have q0 : wr.cell? ⟨gg, o + k * 2 + 0, none⟩ = some (.string (str p.name)) := (HBB.out.cell (p := ⟨gg, o + k * 2 + 0, none⟩) hgl).trans (hcell 0 (by omega))
        have q1 : wr.cell? ⟨gg, o + k * 2 + 1, none⟩ = some (.int .i64 p.ty) := (HBB.out.cell (p := ⟨gg, o + k * 2 + 1, none⟩) hgl).trans (hcell 1 (by omega))
        rw [Nat.add_zero] at q0
        have hkl : k < L.length := by have := HN.out; omega
        obtain ⟨y, hy⟩ : ∃ y, L[k]? = some y := ⟨_, List.getElem?_eq_getElem hkl⟩
        obtain ⟨g2, o2, rfl, hg2, a1⟩ := HA.out k y hy
        have b1 := (HBB.out.cell (p := ⟨g2, o2 + k, none⟩) hg2).trans a1
        have hg2' : g2 < wr.heap.size := by have := HBB.out.size; omega
        have hgg' : gg < wr.heap.size := by have := HBB.out.size; omega
        have HP : Hid ((u.ins.map (·.ty))[k]? = some p.ty) := Lib.hid (by rw [List.getElem?_map, hp]; rfl)
        have HY := Lib.hid hy
        obtain ⟨ty, hty⟩ : ∃ ty, p.ty = ty := ⟨_, rfl⟩
        rw [hty] at q1 HP
        clear hp hcell hy a1 hb3 hsame hpn hxl hty
        by_cases hxy : ty = y
        · have hbb : (ty != y) = false := by simp [hxy]
          have HNX : Hid (∀ j, j < k + 1 → (u.ins.map (·.ty))[j]? = L[j]?) := Lib.hid (fun j hj => by
            by_cases hjk : j = k
            · subst hjk; rw [HP.out, HY.out, hxy]
            · exact HS.out j (by omega))
          clear hxy
          go_wp2
          go_quiet (fail)
          go_wp2
          refine ⟨⟨k + 1, by omega, by go_num, HNX.out, ?_⟩, by simp [intOf]; omega⟩
          exact Tr.below_drewN (HB.out.alloc lB _) _
        · have hbb : (ty != y) = true := by simpa using hxy
          have HNX : Hid (R = (0, 10)) := Lib.hid (by
            rw [← HR.out, HG.out]
            unfold callR callY
            simp only [List.length_map]
            rw [if_neg (by simp [HN.out]), if_pos (fun h => hxy (by
              have h1 := HP.out
              rw [h, HY.out] at h1
              injection h1 with h1; exact h1.symm))]
            rfl)
          clear hxy
          go_wp2
          go_quiet (fail)
          go_wp2
          go_ret2
          exact two_of HNX.out (Tr.below_drewN (HB1.out.trans ((HB.out.alloc lB _).mono HB1.out.size)) _)
      · have hkl : k = u.ins.length := by omega
        subst hkl
        have hTr := (hb3.block _ lt2).trans HT.out
        have q4 : wr.cell? ⟨w.heap.size + 1, 4, none⟩ = some (.int .i64 u.out.ty) := (cells_at hTr 4).trans rfl
        have HNX : Hid (R = (u.out.ty, 0)) := Lib.hid (by
          rw [← HR.out, HG.out]
          unfold callR callY
          simp only [List.length_map]
          rw [if_neg (by simp [HN.out]), if_neg (fun h => h (by
            apply List.ext_getElem?
            intro j
            by_cases hj : j < u.ins.length
            · exact HS.out j hj
            · rw [List.getElem?_eq_none (by simp; omega), List.getElem?_eq_none (by rw [← HN.out]; omega)]))]
          rfl)
        clear hb3 hsame hTr
        go_wp2
        go_ret2
        exact two_of HNX.out HBB.out
end Go.Proofs.YtobkcdkffcenbaaGreatDoor.Ty

/- Layer types: a row that is turned; the arguments of a call. Conditions: the expression may be. -/
namespace Go.Proofs.YtobkcdkffcenbaaGreatDoor.Ty
open Go.ChangeShapes Go.WideShapes Go.ChangeAt Go.RowKit
open Go.Proofs.YtobkcdkffcenbaaGreatDoor.Tr
def revAt (L : List Int) (k : Nat) : List Int := (List.range L.length).map fun i => if i < k ∨ L.length - k ≤ i then L.getD (L.length - 1 - i) 0 else L.getD i 0
theorem revAt_len (L : List Int) (k : Nat) : (revAt L k).length = L.length := by unfold revAt; simp
theorem revAt_get (L : List Int) (k i : Nat) (h : i < L.length) : (revAt L k)[i]? = some (if i < k ∨ L.length - k ≤ i then L.getD (L.length - 1 - i) 0 else L.getD i 0) := by
  unfold revAt; rw [List.getElem?_map, List.getElem?_range h]; rfl
theorem revAt_zero (L : List Int) : revAt L 0 = L := by
  apply List.ext_getElem?
  intro i
  by_cases h : i < L.length
  · rw [revAt_get L 0 i h, if_neg (by omega)]; simp [List.getD, List.getElem?_eq_getElem h]
  · rw [List.getElem?_eq_none (by rw [revAt_len]; omega), List.getElem?_eq_none (by omega)]
theorem revAt_all (L : List Int) (k : Nat) (h : L.length ≤ 2 * k + 1) : revAt L k = L.reverse := by
  apply List.ext_getElem?
  intro i
  by_cases hi : i < L.length
  · rw [revAt_get L k i hi, List.getElem?_reverse hi]
    have h2 : L.length - 1 - i < L.length := by omega
    rw [List.getElem?_eq_getElem h2]
    by_cases hc : i < k ∨ L.length - k ≤ i
    · rw [if_pos hc]; simp [List.getD, List.getElem?_eq_getElem h2]
    · rw [if_neg hc]
      have : L.length - 1 - i = i := by omega
      simp [List.getD, List.getElem?_eq_getElem hi, this]
  · rw [List.getElem?_eq_none (by rw [revAt_len]; omega), List.getElem?_eq_none (by rw [List.length_reverse]; omega)]
theorem revAt_next (L : List Int) (k : Nat) (h : 2 * k + 1 < L.length) : ((revAt L k).set k (L.getD (L.length - 1 - k) 0)).set (L.length - 1 - k) (L.getD k 0) = revAt L (k + 1) := by
  apply List.ext_getElem?
  intro i
  by_cases hi : i < L.length
  · rw [revAt_get L (k + 1) i hi]
    by_cases h1 : L.length - 1 - k = i
    · subst h1
      rw [List.getElem?_set_self (by rw [List.length_set, revAt_len]; exact hi), if_pos (by omega)]
      congr 2; omega
    · rw [List.getElem?_set_ne h1]
      by_cases h2 : k = i
      · subst h2
        rw [List.getElem?_set_self (by rw [revAt_len]; exact hi), if_pos (by omega)]
      · rw [List.getElem?_set_ne h2, revAt_get L k i hi]
        by_cases hc : i < k ∨ L.length - k ≤ i
        · rw [if_pos hc, if_pos (by omega)]
        · rw [if_neg hc, if_neg (by omega)]
  · rw [List.getElem?_eq_none (by rw [List.length_set, List.length_set, revAt_len]; omega), List.getElem?_eq_none (by rw [revAt_len]; omega)]
def RevPost (w : World) (base : Nat) (v : Value) (L : List Int) (e : Ending) (w' : World) : Prop :=
  e = .returned (.tuple #[]) ∧ w'.ownsRow base 3 1 v L.length (intsOf L.reverse) ∧ Below base w w'
theorem below_set2 {base g k m : Nat} {w wr : World} {x y : Value} (h : Below base w wr) (hg : base ≤ g) : Below base w ((wr.setCell ⟨g, k, none⟩ y).setCell ⟨g, m, none⟩ x) := (h.setCell (p := ⟨g, k, none⟩) hg _).setCell (p := ⟨g, m, none⟩) hg _
set_option maxRecDepth 100000 in
set_option maxHeartbeats 4000000 in
theorem rev_any (v : Value) (L : List Int) (base : Nat) (w : World) (hv : w.ownsRow base 3 1 v L.length (intsOf L)) (hn : L.length ≤ 1000000) : Calls Tryz.prog 91 #[v] w (RevPost w base v L) := by
  have HV := Lib.hid hv
  rcases hv.2 with ⟨rfl, h0⟩ | ⟨g, c, cur, rfl, hbg, hh, hc1, hc2, -, -⟩
  · have hL : L = [] := List.length_eq_zero_iff.1 h0
    subst hL
    clear h0 hv
    go_enter Tryz.func91, Tryz.ntmps91
    go_wp2
    go_loopw [2, 3] (fun i j wr => i = .int .i64 0 ∧ j = .int .i64 (-1) ∧ wr = w) (fun i _ _ => 0)
    case atStart => exact ⟨rfl, rfl, rfl⟩
    case round =>
      obtain ⟨rfl, rfl, rfl⟩ := hrel
      go_wp2
      go_end0
      exact ⟨rfl, HV.out, Below.refl _ _⟩
  unfold maxLen at hc2
  have HV0 : Hid (w.ownsRow base 3 1 (.slice (some ⟨g, 0, none⟩) L.length c) L.length (intsOf (revAt L 0))) := Lib.hid (by rw [revAt_zero]; exact HV.out)
  clear hv hh
  go_enter Tryz.func91, Tryz.ntmps91
  go_wp2
  go_loopw [2, 3] (fun i j wr => ∃ k : Nat, k ≤ L.length ∧ i = .int .i64 k ∧ j = .int .i64 ((L.length : Int) - 1 - k) ∧ 2 * k ≤ L.length + 1 ∧ wr.ownsRow base 3 1 (.slice (some ⟨g, 0, none⟩) L.length c) L.length (intsOf (revAt L k)) ∧ Below base w wr) (fun i _ _ => L.length - (intOf i).toNat)
  case atStart => exact ⟨0, Nat.zero_le _, rfl, by simp, by omega, HV0.out, Below.refl _ _⟩
  case round =>
    obtain ⟨k, hk, rfl, rfl, hk2, hown, hb⟩ := hrel
    by_cases hlt : 2 * k + 1 < L.length
    · obtain ⟨m, hm⟩ : ∃ m, L.length - 1 - k = m := ⟨_, rfl⟩
      have hmi : (L.length : Int) - 1 - (k : Int) = (m : Int) := by omega
      have hml : m < L.length := by omega
      have hkm : k < m := by omega
      rw [hmi]
      have g1 : (revAt L k)[k]? = some (L.getD k 0) := by rw [revAt_get L k k (by omega), if_neg (by omega)]
      have g2 : (revAt L k)[m]? = some (L.getD m 0) := by rw [revAt_get L k m (by omega), if_neg (by omega)]
      have hnx := revAt_next L k hlt
      rw [hm] at hnx
      obtain ⟨x, hx⟩ : ∃ x, L.getD k 0 = x := ⟨_, rfl⟩
      obtain ⟨y, hy⟩ : ∃ y, L.getD m 0 = y := ⟨_, rfl⟩
      rw [hx] at g1 hnx
      rw [hy] at g2 hnx
      have c1 := (hown.cellAt k (by omega)).trans (intsOf_get _ k _ g1)
      have c2 := (hown.cellAt m (by omega)).trans (intsOf_get _ m _ g2)
      have f1 := hown.frozenAt k
      have f2 := hown.frozenAt m
      have HO2 : Hid (((wr.setCell ⟨g, k, none⟩ (.int .i64 y)).setCell ⟨g, m, none⟩ (.int .i64 x)).ownsRow base 3 1 (.slice (some ⟨g, 0, none⟩) L.length c) L.length (intsOf (revAt L (k + 1)))) := Lib.hid (by
        rw [← hnx, intsOf_set, intsOf_set]
        exact ((hown.stored k (.int .i64 y)).1.stored m (.int .i64 x)).1)
      have hgl := (hown.lt g rfl).2
      have HBK := Lib.hid hb
      have e3 : (m : Int) - 1 = ((m - 1 : Nat) : Int) := by omega
      have e4 : ((m - 1 : Nat) : Int) = (L.length : Int) - 1 - ((k + 1 : Nat) : Int) := by omega
      have E4 := Lib.hid e4
      have hkl : k < L.length := by omega
      clear hm hmi hx hy g1 g2 hnx hown hb e4 hk2
      go_wp2
      go_region
      all_goals
        go_wp2
        refine ⟨⟨k + 1, by omega, by go_num, by first | rfl | (rw [E4.out]) | (congr 1; omega), by omega, ?hw, ?hbl⟩, by simp [intOf]; omega⟩
        case hw => exact HO2.out
        case hbl => exact (below_set2 HBK.out hbg).drew
    · have HV2 : Hid (wr.ownsRow base 3 1 (.slice (some ⟨g, 0, none⟩) L.length c) L.length (intsOf L.reverse)) := Lib.hid (by rw [← revAt_all L k (by omega)]; exact hown)
      have HBK := Lib.hid hb
      have hd : decide ((k : Int) < (L.length : Int) - 1 - (k : Int)) = false := decide_eq_false (by omega)
      clear hown hb
      go_wp2
      go_end0
      exact ⟨rfl, HV2.out, HBK.out⟩
set_option maxRecDepth 100000 in
set_option maxHeartbeats 4000000 in
theorem arguments_any (v : Value) (e : List Nd) (x : Nd) (i : Nat) (w : World) (hv : Nodes w v e) (he : e.length ≤ 5000) (hg : ∀ i x, e[i]? = some x → Tr.Good e i x) (hi : i ≤ e.length) (ha : IsArgs e i x.a) :
    Calls Tryz.prog 73 #[v, .agg (ndC x)] w (IntsPost w (argsAt e x.a)) := by
  have HG := Lib.hid hg
  have hal := argsAt_len hg i x.a hi ha
  obtain ⟨AL, hAL⟩ : ∃ AL, argsAt e x.a = AL := ⟨_, rfl⟩
  have HAL := Lib.hid hAL
  rw [hAL] at hal ⊢
  obtain ⟨A, c, rfl, h1, h2, hA⟩ := hv
  unfold maxLen at h2
  have HA := Lib.hid hA
  obtain ⟨i0, hi', hz0, hz1, hz2⟩ := info_parts info3
  have hX : (w.alloc (.cells (ndC x) 70)).heap[w.heap.size]? = some (.cells (ndC x) 70 (0, 0)) := heap_alloc_new w _
  have p1 : (w.alloc (.cells (ndC x) 70)).cell? ⟨w.heap.size, 1, none⟩ = some (.int .i64 x.a) := (cells_at hX 1).trans rfl
  have HA0 := Lib.hid ha
  obtain ⟨op, a, b, cc, n, nm⟩ := x
  simp only at HAL HA0 p1
  clear hA hAL hg ha hX
  go_enter Tryz.func73, Tryz.ntmps73
  go_wp2
  go_loopw [5, 6] (fun ov k wr => ∃ (kk : Int) (P : List Int) (ov' : Value), ov' = ov ∧ k = .int .i64 kk ∧ IsArgs e i kk ∧ argsAt e kk ++ P.reverse = AL ∧ wr.ownsRow w.heap.size 3 1 ov' P.length (intsOf P) ∧ Below w.heap.size w wr) (fun _ k _ => (intOf k + 1).toNat)
  case atStart => exact ⟨a, [], _, rfl, rfl, HA0.out, by simp [HAL.out], World.ownsRow_nil _ _ _ _, below_new w _⟩
  case round =>
    obtain ⟨kk, P, ov', rfl, rfl, hia, hap, hown, hb⟩ := hrel
    have hPl : P.length ≤ i := by
      have := congrArg List.length hap
      simp at this; omega
    have HAP := Lib.hid hap
    have hz := hb.size
    rcases hia with rfl | ⟨k0, k1, k2⟩
    · have HRV : Hid (P.reverse = AL) := Lib.hid (by have := HAP.out; rw [argsAt_none] at this; simpa using this)
      have HC := Lib.hid (rev_any ov' P w.heap.size wr hown (by omega))
      have HBK := Lib.hid hb
      have hl2 : P.length = AL.length := by rw [← HRV.out]; simp
      have HL2 := Lib.hid hl2
      rcases hown.2 with ⟨rfl, -⟩ | ⟨g3, c3, cur3, rfl, -⟩
      all_goals
        clear hap hown hb hl2
        go_wp2_with fail
        refine HC.out.mono ?_
        rintro r w3 ⟨rfl, ho3, hb3⟩
        have HB3 := Lib.hid (HBK.out.trans hb3)
        have HO3 := Lib.hid ho3
        clear ho3 hb3
        go_wp2
        go_ret
        refine ⟨_, rfl, ?_, HB3.out⟩
        rw [← HL2.out, ← HRV.out]
        exact HO3.out
    · obtain ⟨m, rfl⟩ := Int.eq_ofNat_of_zero_le k0
      have hml : m < e.length := by omega
      have hm : e[m]? = some (e.getD m default) := of_getD hml
      obtain ⟨y, hy⟩ : ∃ y, e.getD m default = y := ⟨_, rfl⟩
      have h28 : y.op = 28 := by rw [← hy]; simpa [Tr.opAt] using k2
      rw [hy] at hm
      obtain ⟨hnb, na, nb⟩ := args_next (HG.out m y hm) h28
      have hst := argsAt_step HG.out hm h28
      obtain ⟨g, o, rfl, hg, a0, a1, a2, -⟩ := HA.out m y hm
      have b1 := (hb.cell (p := ⟨g, o + m * 6 + 1, none⟩) hg).trans a1
      have b2 := (hb.cell (p := ⟨g, o + m * 6 + 2, none⟩) hg).trans a2
      have HN : Hid (argsAt e y.b ++ (P ++ [y.a]).reverse = AL) := Lib.hid (by
        rw [← HAP.out, hst]; simp)
      have HIA : Hid (IsArgs e i y.b) := Lib.hid (by
        rcases hnb with h | ⟨q0, q1, q2⟩
        · exact .inl h
        · exact .inr ⟨q0, by omega, q2⟩)
      have HMS : Hid ((y.b + 1).toNat < ((m : Int) + 1).toNat) := Lib.hid (by rcases hnb with h | ⟨q0, q1, q2⟩ <;> omega)
      obtain ⟨ya, hya⟩ : ∃ ya, y.a = ya := ⟨_, rfl⟩
      obtain ⟨yb, hyb⟩ : ∃ yb, y.b = yb := ⟨_, rfl⟩
      rw [hya] at b1 HN
      rw [hyb] at b2 HN HIA HMS
      clear hm hy h28 hnb na nb hst a0 a1 a2 hya hyb hap k2 k0
      go_wp2_with (at_builtin; refine wpList_append_own _ rfl (.tmp 16) (.tmp 22) 72 rfl w.heap.size 3 i0 _ 1 8 Tryz.underlying72 hi' hz0 hz1 hz2 rfl (by decide) _ _ _ rfl (hown.alloc _) ⟨wr.heap.size, 0, none⟩ 1 1 [.int .i64 ya] rfl rfl ?a1 ?b1 ?c1 ?d1 ?e1 ?_)
      case a1 => exact cell_one_new _ _ _
      case b1 => intro u hu; simp at hu; subst hu; rfl
      case c1 => unfold maxLen; omega
      case d1 => omega
      case e1 => simp; omega
      intro v' w1 hown' hgrow _
      have HB2 := Lib.hid ((hb.alloc hz (.cells #[.int .i64 ya] 3)).grown hgrow (by simp; omega) (fun j hj => (hown.lt j hj).1))
      have HO2 := Lib.hid hown'
      have c2 : w1.cell? ⟨g, o + m * 6 + 2, none⟩ = some (.int .i64 yb) := (HB2.out.cell (p := ⟨g, o + m * 6 + 2, none⟩) hg).trans ((hb.cell (p := ⟨g, o + m * 6 + 2, none⟩) hg).symm.trans b2)
      clear hown hgrow hown' hb
      go_wp2
      refine ⟨⟨yb, P ++ [ya], _, rfl, rfl, HIA.out, HN.out, by rw [ints_snoc, List.length_append]; exact HO2.out, HB2.out⟩, ?_⟩
      simp [intOf]
      have := HMS.out
      omega
end Go.Proofs.YtobkcdkffcenbaaGreatDoor.Ty

/- Layer types: the type of a node by those ahead. Conditions: the maps and the table lie in memory, the expression may be. -/
namespace Go.Proofs.YtobkcdkffcenbaaGreatDoor.Ty
open Go.ChangeShapes Go.WideShapes Go.ChangeAt Go.RowKit
open Go.Proofs.YtobkcdkffcenbaaGreatDoor.Tr
abbrev IntsP (w1 : World) (l : List Int) (e : Ending) (w' : World) : Prop := ∃ v, e = .returned v ∧ Ints w' v l ∧ Below w1.heap.size w1 w'
theorem ints_form {w : World} {v : Value} {l : List Int} (h : Ints w v l) : ∃ A c, v = .slice A l.length c ∧ l.length ≤ c ∧ c ≤ 2 ^ 63 - 1 := by
  obtain ⟨A, c, h1, h2, h3, _⟩ := h
  exact ⟨A, c, h1, h2, h3⟩
theorem ints_p {w1 W W' : World} {l : List Int} {r : Ending} (h : Below w1.heap.size w1 W) (hh : IntsPost W l r W') : IntsP w1 l r W' := by
  obtain ⟨v, h1, h2, h3⟩ := hh
  exact ⟨v, h1, Ints.of_own h2, h.trans (h3.mono h.size)⟩
abbrev TwoP (w1 : World) (p : Int × Int) (e : Ending) (w' : World) : Prop := e = .returned (.tuple #[.int .i64 p.1, .int .i64 p.2]) ∧ Below w1.heap.size w1 w'
theorem two_p {w1 W W' : World} {p : Int × Int} {r : Ending} (h : Below w1.heap.size w1 W) (hh : TwoPost W p r W') : TwoP w1 p r W' := ⟨hh.1, h.trans (hh.2.mono h.size)⟩
noncomputable def nodeR (E : Env) (e : List Nd) (L : List Int) (x : Nd) : Int × Int :=
  if x.op = 3 then strR (E.str x.name) else if x.op = 27 then callR (E.nod x.name) (pickM L (argsAt e x.a)) else if x.op = 28 then (0, 0) else madeM (shapeAt x.op.toNat) (pickM L (kidsM x))
set_option maxRecDepth 100000 in
set_option maxHeartbeats 8000000 in
theorem node_3 (sv nv tv wv : Value) (n1 n2 : Nat) (E : Env) (e : List Nd) (L : List Int) (i : Nat) (x : Nd) (w : World) (hS : StrAt w sv n1 E.str) (hN : NodAt w nv n2 E.nod) (hT : ShAt w) (hv : Nodes w wv e) (hl : Ints w tv L) (hx : e[i]? = some x) (he : e.length ≤ 5000) (hLl : L.length = e.length)
    (hg : ∀ i x, e[i]? = some x → Tr.Good e i x) (hs : x.name.length ≤ maxLen) (h3 : x.op = 3) : Calls Tryz.prog 49 #[.agg #[sv, nv], .agg (ndC x), wv, tv] w (TwoPost w (nodeR E e L x)) := by
  have hil := (List.getElem?_eq_some_iff.1 hx).1
  have hgx := hg i x hx
  obtain ⟨R, hR⟩ : ∃ R, nodeR E e L x = R := ⟨_, rfl⟩
  rw [hR]
  have hop : 1 ≤ x.op ∧ x.op ≤ 28 := by
    have := hgx.plain
    unfold plainB at this
    simp at this
    exact this.1.1.1
  obtain ⟨w1, hw1⟩ : ∃ W, (w.alloc (.cells #[sv, nv] 60)).alloc (.cells (ndC x) 70) = W := ⟨_, rfl⟩
  have N := news_two w (.cells #[sv, nv] 60) (.cells (ndC x) 70)
  rw [hw1] at N
  have hb1 := N.1
  have lt1 := lt_of_block N.2.1
  have lt2 := lt_of_block N.2.2
  have HX : Hid (∀ W, Below w1.heap.size w1 W → (W.cell? ⟨w.heap.size, 0, none⟩ = some sv ∧ W.cell? ⟨w.heap.size, 1, none⟩ = some nv ∧ W.cell? ⟨w.heap.size + 1, 0, none⟩ = some (.int .i64 x.op) ∧ W.cell? ⟨w.heap.size + 1, 1, none⟩ = some (.int .i64 x.a) ∧ W.cell? ⟨w.heap.size + 1, 2, none⟩ = some (.int .i64 x.b) ∧ W.cell? ⟨w.heap.size + 1, 3, none⟩ = some (.int .i64 x.c) ∧ W.cell? ⟨w.heap.size + 1, 4, none⟩ = some (.int .i64 x.n) ∧ W.cell? ⟨w.heap.size + 1, 5, none⟩ = some (.string (str x.name)))) := Lib.hid (fun W h => by
    have h1 := (h.block _ lt1).trans N.2.1
    have h2 := (h.block _ lt2).trans N.2.2
    exact ⟨(cells_at h1 0).trans rfl, (cells_at h1 1).trans rfl, (cells_at h2 0).trans rfl, (cells_at h2 1).trans rfl, (cells_at h2 2).trans rfl, (cells_at h2 3).trans rfl, (cells_at h2 4).trans rfl, (cells_at h2 5).trans rfl⟩)
  have HBW : Hid (∀ W, Below w1.heap.size w1 W → Below w.heap.size w W) := Lib.hid (fun W h => hb1.trans (h.mono hb1.size))
  have HP : Hid (∀ W kv N, Below w1.heap.size w1 W → Ints W kv N → (∀ k ∈ N, 0 ≤ k ∧ k < (L.length : Int)) → N.length ≤ 5000 → Calls Tryz.prog 72 #[tv, kv] W (IntsP w1 (pickM L N))) := Lib.hid (fun W kv N h hk h2 h3 => (picked_any tv kv L N W (hl.below (HBW.out W h) (Nat.le_refl _)) hk h2 (by omega)).mono (fun r W' hh => ints_p h hh))
  obtain ⟨AW, cW, hwe, y1, y2, -⟩ := id hv
  obtain ⟨AT, cT, hte, y3, y4, -⟩ := id hl
  unfold maxLen at y2 y4
  have HW1 := Lib.hid hw1
  have HB1 := Lib.hid hb1
  obtain ⟨q0, q1, q2, q3, q4, q5, q6, q7⟩ := HX.out w1 (Below.refl _ _)
  have HC := Lib.hid (stream_any sv nv n1 E.str x.name w1 (hS.below hb1) hs)
  have HE : Hid (R = strR (E.str x.name)) := Lib.hid (by rw [← hR]; unfold nodeR; rw [if_pos h3])
  obtain ⟨⟨p, q⟩, hpq⟩ : ∃ y, strR (E.str x.name) = y := ⟨_, rfl⟩
  rw [hpq] at HE HC
  rw [HE.out]
  subst hwe hte
  obtain ⟨op, a, b, cc, n, nm⟩ := x
  simp only at h3 q2 q3 q4 q5 q6 q7
  subst h3
  clear hLl hR hpq hgx hg hx hS hN hT hv hl N hw1 hb1 HP
  go_enter Tryz.func49, Tryz.ntmps49
  go_wp2_with fail
  rw [HW1.out]
  go_wp2_with fail
  refine HC.out.mono ?_
  rintro r w3 ⟨rfl, hb3⟩
  have HB3 := Lib.hid (HBW.out w3 hb3)
  clear hb3
  go_wp2
  go_ret2
  exact ⟨rfl, HB3.out⟩
set_option maxRecDepth 100000 in
set_option maxHeartbeats 8000000 in
theorem node_28 (sv nv tv wv : Value) (n1 n2 : Nat) (E : Env) (e : List Nd) (L : List Int) (i : Nat) (x : Nd) (w : World) (hS : StrAt w sv n1 E.str) (hN : NodAt w nv n2 E.nod) (hT : ShAt w) (hv : Nodes w wv e) (hl : Ints w tv L) (hx : e[i]? = some x) (he : e.length ≤ 5000) (hLl : L.length = e.length)
    (hg : ∀ i x, e[i]? = some x → Tr.Good e i x) (hs : x.name.length ≤ maxLen) (h3 : x.op ≠ 3) (h27 : x.op ≠ 27) (h28 : x.op = 28) : Calls Tryz.prog 49 #[.agg #[sv, nv], .agg (ndC x), wv, tv] w (TwoPost w (nodeR E e L x)) := by
  have hil := (List.getElem?_eq_some_iff.1 hx).1
  have hgx := hg i x hx
  obtain ⟨R, hR⟩ : ∃ R, nodeR E e L x = R := ⟨_, rfl⟩
  rw [hR]
  have hop : 1 ≤ x.op ∧ x.op ≤ 28 := by
    have := hgx.plain
    unfold plainB at this
    simp at this
    exact this.1.1.1
  obtain ⟨w1, hw1⟩ : ∃ W, (w.alloc (.cells #[sv, nv] 60)).alloc (.cells (ndC x) 70) = W := ⟨_, rfl⟩
  have N := news_two w (.cells #[sv, nv] 60) (.cells (ndC x) 70)
  rw [hw1] at N
  have hb1 := N.1
  have lt1 := lt_of_block N.2.1
  have lt2 := lt_of_block N.2.2
  have HX : Hid (∀ W, Below w1.heap.size w1 W → (W.cell? ⟨w.heap.size, 0, none⟩ = some sv ∧ W.cell? ⟨w.heap.size, 1, none⟩ = some nv ∧ W.cell? ⟨w.heap.size + 1, 0, none⟩ = some (.int .i64 x.op) ∧ W.cell? ⟨w.heap.size + 1, 1, none⟩ = some (.int .i64 x.a) ∧ W.cell? ⟨w.heap.size + 1, 2, none⟩ = some (.int .i64 x.b) ∧ W.cell? ⟨w.heap.size + 1, 3, none⟩ = some (.int .i64 x.c) ∧ W.cell? ⟨w.heap.size + 1, 4, none⟩ = some (.int .i64 x.n) ∧ W.cell? ⟨w.heap.size + 1, 5, none⟩ = some (.string (str x.name)))) := Lib.hid (fun W h => by
    have h1 := (h.block _ lt1).trans N.2.1
    have h2 := (h.block _ lt2).trans N.2.2
    exact ⟨(cells_at h1 0).trans rfl, (cells_at h1 1).trans rfl, (cells_at h2 0).trans rfl, (cells_at h2 1).trans rfl, (cells_at h2 2).trans rfl, (cells_at h2 3).trans rfl, (cells_at h2 4).trans rfl, (cells_at h2 5).trans rfl⟩)
  have HBW : Hid (∀ W, Below w1.heap.size w1 W → Below w.heap.size w W) := Lib.hid (fun W h => hb1.trans (h.mono hb1.size))
  have HP : Hid (∀ W kv N, Below w1.heap.size w1 W → Ints W kv N → (∀ k ∈ N, 0 ≤ k ∧ k < (L.length : Int)) → N.length ≤ 5000 → Calls Tryz.prog 72 #[tv, kv] W (IntsP w1 (pickM L N))) := Lib.hid (fun W kv N h hk h2 h3 => (picked_any tv kv L N W (hl.below (HBW.out W h) (Nat.le_refl _)) hk h2 (by omega)).mono (fun r W' hh => ints_p h hh))
  obtain ⟨AW, cW, hwe, y1, y2, -⟩ := id hv
  obtain ⟨AT, cT, hte, y3, y4, -⟩ := id hl
  unfold maxLen at y2 y4
  have HW1 := Lib.hid hw1
  have HB1 := Lib.hid hb1
  obtain ⟨q0, q1, q2, q3, q4, q5, q6, q7⟩ := HX.out w1 (Below.refl _ _)
  have b3 : (x.op == 3) = false := by simpa using h3
  have b27 : (x.op == 27) = false := by simpa using h27
  have HE : Hid (R = (0, 0)) := Lib.hid (by rw [← hR]; unfold nodeR; rw [if_neg h3, if_neg h27, if_pos h28])
  rw [HE.out]
  subst hwe hte
  obtain ⟨op, a, b, cc, n, nm⟩ := x
  simp only at h28 q2 q3 q4 q5 q6 q7
  subst h28
  clear hLl hR hgx hg hx hS hN hT hv hl N hw1 hb1 HP HX h3 h27
  go_enter Tryz.func49, Tryz.ntmps49
  go_wp2_with fail
  rw [HW1.out]
  go_wp2
  go_ret2
  exact ⟨rfl, HB1.out⟩
end Go.Proofs.YtobkcdkffcenbaaGreatDoor.Ty

