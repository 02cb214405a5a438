/- Layer types: an item. Conditions: the map of streams and the table lie in memory. -/
import Derived.Test.YtobkcdkffcenbaaGreatDoorRa07
import Derived.Test.YtobkcdkffcenbaaGreatDoorRa02
import Derived.Shelf.SlMaps.Clone
import Derived.Lib.AppendZeros
import Derived.Laws.AppendOwnNone
set_option linter.unusedVariables false
set_option linter.unusedSimpArgs false
namespace Go.Proofs.YtobkcdkffcenbaaGreatDoor.Ty
open Go.ChangeShapes Go.WideShapes Go.ChangeAt Go.RowKit
open Go.Proofs.YtobkcdkffcenbaaGreatDoor.Tr
open Go.Proofs.YtobkcdkffcenbaaGreatDoor.Pg (Prm Eqn Itm Unt)
open Go.Proofs.YtobkcdkffcenbaaGreatDoor.Ow (PrmN EqnN ItmN UntN RowN rown_at rown_form)
def nextF (f : Bytes → Option Int) (i : Itm) : Bytes → Option Int := if i.kind = 3 then addF f ⟨i.name, i.ty⟩ else f
abbrev noN : Bytes → Option (List Int × Int) := fun _ => none
def ItemPost (w : World) (b n : Nat) (f : Bytes → Option Int) (i : Itm) (x : Int) (e : Ending) (w' : World) : Prop :=
  e = .returned (.int .i64 x) ∧ StrAt w' (.map (some b)) (n + 1) (nextF f i) ∧ w.heap.size ≤ w'.heap.size ∧ w.grownBy w' (some b)
theorem grown_of {w w' : World} (b : Nat) (h : Below w.heap.size w w') : w.grownBy w' (some b) := ⟨h.os, h.tape, h.output, h.size, fun i hi _ => h.block i hi⟩
theorem StrAt.mono {w : World} {v : Value} {n m : Nat} {f : Bytes → Option Int} (h : StrAt w v n f) (hn : n ≤ m) : StrAt w v m f := by
  obtain ⟨b, h1, h2⟩ := h; exact ⟨b, h1, h2.mono hn⟩
theorem item_end {w w' : World} {b n : Nat} {f : Bytes → Option Int} {i : Itm} {x y : Int} (hS : StrAt w (.map (some b)) n f) (h : x = y) (hk : i.kind ≠ 3) (hb : Below w.heap.size w w') : ItemPost w b n f i x (.returned (.int .i64 y)) w' := by
  subst h
  exact ⟨rfl, by unfold nextF; rw [if_neg hk]; exact (hS.below hb).mono (Nat.le_succ _), hb.size, grown_of b hb⟩
set_option maxRecDepth 100000 in
set_option maxHeartbeats 8000000 in
theorem item_any (b n : Nat) (f : Bytes → Option Int) (i : Itm) (x : List Value) (w : World) (hS : StrAt w (.map (some b)) n f) (hT : ShAt w) (hx : ItmN w i x) (hn : n < maxLen) :
    Calls Tryz.prog 45 #[.agg #[.map (some b), .map none], .agg x.toArray] w (ItemPost w b n f i (itemM ⟨f, noN⟩ i)) := by
  obtain ⟨ev, fv, A, na, c, rfl, hev, hfv, hnm, hse, hsf⟩ := hx
  have N := news_two w (.cells #[.map (some b), .map none] 60) (.cells #[.int .i64 i.kind, .string (str i.name), .int .i64 i.ty, ev, fv, .slice A na c] 53)
  obtain ⟨w1, hw1⟩ : ∃ W, (w.alloc (.cells #[.map (some b), .map none] 60)).alloc (.cells #[.int .i64 i.kind, .string (str i.name), .int .i64 i.ty, ev, fv, .slice A na c] 53) = W := ⟨_, rfl⟩
  rw [hw1] at N
  have hb1 := N.1
  have l1 := lt_of_block N.2.1
  have l2 := lt_of_block N.2.2
  have HX : Hid (∀ W, Below w1.heap.size w1 W → (W.cell? ⟨w.heap.size, 0, none⟩ = some (.map (some b)) ∧ W.cell? ⟨w.heap.size, 1, none⟩ = some (.map none)) ∧ W.cell? ⟨w.heap.size + 1, 0, none⟩ = some (.int .i64 i.kind) ∧ W.cell? ⟨w.heap.size + 1, 1, none⟩ = some (.string (str i.name)) ∧ W.cell? ⟨w.heap.size + 1, 2, none⟩ = some (.int .i64 i.ty) ∧ W.cell? ⟨w.heap.size + 1, 3, none⟩ = some ev ∧ W.cell? ⟨w.heap.size + 1, 4, none⟩ = some fv) := Lib.hid (fun W h => by
    have h1 := (h.block _ l1).trans N.2.1
    have h2 := (h.block _ l2).trans N.2.2
    exact ⟨⟨(cells_at h1 0).trans rfl, (cells_at h1 1).trans rfl⟩, (cells_at h2 0).trans rfl, (cells_at h2 1).trans rfl, (cells_at h2 2).trans rfl, (cells_at h2 3).trans rfl, (cells_at h2 4).trans rfl⟩)
  have HBW : Hid (∀ W, Below w1.heap.size w1 W → Below w.heap.size w W) := Lib.hid (fun W h => hb1.trans (h.mono hb1.size))
  have HI : Hid (∀ W t, Below w1.heap.size w1 W → Calls Tryz.prog 63 #[.agg #[.map (some b), .map none], ev, .int .i64 t] W (ErrP W (isM ⟨f, noN⟩ i.e t))) := Lib.hid (fun W t h => by
    have hb := HBW.out W h
    exact is_any _ _ ev n 0 ⟨f, noN⟩ i.e t W (hS.below hb) (.inl ⟨rfl, fun _ => rfl⟩) (hT.below hb hT.1) (hev.below hb (Nat.le_refl _)) hse)
  have HJ : Hid (∀ W t, Below w1.heap.size w1 W → Calls Tryz.prog 63 #[.agg #[.map (some b), .map none], fv, .int .i64 t] W (ErrP W (isM ⟨f, noN⟩ i.f t))) := Lib.hid (fun W t h => by
    have hb := HBW.out W h
    exact is_any _ _ fv n 0 ⟨f, noN⟩ i.f t W (hS.below hb) (.inl ⟨rfl, fun _ => rfl⟩) (hT.below hb hT.1) (hfv.below hb (Nat.le_refl _)) hsf)
  have HE := Lib.hid (show itemM ⟨f, noN⟩ i = if i.kind = 1 ∨ i.kind = 2 then isM ⟨f, noN⟩ i.e 1 else if i.kind = 4 then (if isM ⟨f, noN⟩ i.e 1 ≠ 0 then isM ⟨f, noN⟩ i.e 1 else isM ⟨f, noN⟩ i.f 1) else if i.kind = 3 then isM ⟨f, noN⟩ i.e i.ty else 0 from rfl)
  obtain ⟨R, hR⟩ : ∃ R, itemM ⟨f, noN⟩ i = R := ⟨_, rfl⟩
  rw [hR] at HE ⊢
  obtain ⟨Ae, ce, rfl, -⟩ := hev
  obtain ⟨Af, cf, rfl, -⟩ := hfv
  have HB1 := Lib.hid hb1
  have HW1 := Lib.hid hw1
  have HS := Lib.hid hS
  obtain ⟨⟨q0, q1⟩, q2, q3, q4, q5, q6⟩ := HX.out w1 (Below.refl _ _)
  have lb : b < w.heap.size := by
    obtain ⟨b', hb', hm⟩ := hS
    simp only [Value.map.injEq, Option.some.injEq] at hb'
    subst hb'
    exact hm.lt
  clear hR N hb1 hw1 hS hT
  obtain ⟨kd, nm, ty, e, ff, args⟩ := i
  simp only at HX HI HJ HE hnm hse hsf q2 q3 q4 q5 q6
  by_cases h12 : kd = 1 ∨ kd = 2
  · have HR : Hid (R = isM ⟨f, noN⟩ e 1) := Lib.hid (by rw [HE.out, if_pos h12])
    have HC := Lib.hid (HI.out w1 1 (Below.refl _ _))
    obtain ⟨z, hz⟩ : ∃ z, isM ⟨f, noN⟩ e 1 = z := ⟨_, rfl⟩
    rw [hz] at HC HR
    have hk3 : kd ≠ 3 := by rcases h12 with h | h <;> omega
    have HK := Lib.hid hk3
    clear hz hk3 HE HJ HI
    rcases h12 with rfl | rfl
    all_goals
      go_enter Tryz.func45, Tryz.ntmps45
      go_wp2_with fail
      rw [HW1.out]
      go_wp2_with fail
      refine HC.out.mono ?_
      rintro r w2 ⟨rfl, hb2⟩
      have HB2 : Hid (Below w.heap.size w w2) := Lib.hid (HB1.out.trans (hb2.mono HB1.out.size))
      clear hb2
      go_wp2
      go_ret
      exact item_end HS.out HR.out HK.out HB2.out
  have h1 : kd ≠ 1 := fun h => h12 (.inl h)
  have h2 : kd ≠ 2 := fun h => h12 (.inr h)
  by_cases h4 : kd = 4
  · subst h4
    have HC := Lib.hid (HI.out w1 1 (Below.refl _ _))
    have HR : Hid (R = if isM ⟨f, noN⟩ e 1 ≠ 0 then isM ⟨f, noN⟩ e 1 else isM ⟨f, noN⟩ ff 1) := Lib.hid (by rw [HE.out, if_neg h12, if_pos rfl])
    have HJ1 : Hid (∀ W, Below w1.heap.size w1 W → Calls Tryz.prog 63 #[.agg #[.map (some b), .map none], .slice Af ff.length cf, .int .i64 1] W (ErrP W (isM ⟨f, noN⟩ ff 1))) := Lib.hid (fun W h => HJ.out W 1 h)
    obtain ⟨z, hz⟩ : ∃ z, isM ⟨f, noN⟩ e 1 = z := ⟨_, rfl⟩
    obtain ⟨z', hz'⟩ : ∃ z, isM ⟨f, noN⟩ ff 1 = z := ⟨_, rfl⟩
    rw [hz] at HC HR
    rw [hz'] at HR HJ1
    clear hz hz' HE HJ HI h12 h1 h2
    by_cases hz0 : z = 0
    · subst hz0
      have HR2 : Hid (R = z') := Lib.hid (by rw [HR.out, if_neg (by simp)])
      go_enter Tryz.func45, Tryz.ntmps45
      go_wp2_with fail
      rw [HW1.out]
      go_wp2_with fail
      refine HC.out.mono ?_
      rintro r w2 ⟨rfl, hb2⟩
      have HB2 := Lib.hid hb2
      obtain ⟨⟨r0, r1⟩, r2, r3, r4, r5, r6⟩ := HX.out w2 hb2
      have HJ2 := Lib.hid (HJ1.out w2 hb2)
      clear hb2
      go_wp2_with fail
      refine HJ2.out.mono ?_
      rintro r w3 ⟨rfl, hb3⟩
      have HB3 : Hid (Below w.heap.size w w3) := Lib.hid (HB1.out.trans ((HB2.out.trans (hb3.mono HB2.out.size)).mono HB1.out.size))
      clear hb3
      go_wp2
      go_ret
      exact item_end HS.out HR2.out (show (4 : Int) ≠ 3 by decide) HB3.out
    · have hzb : (z != 0) = true := by simpa using hz0
      have HR2 : Hid (R = z) := Lib.hid (by rw [HR.out, if_pos hz0])
      clear hz0
      go_enter Tryz.func45, Tryz.ntmps45
      go_wp2_with fail
      rw [HW1.out]
      go_wp2_with fail
      refine HC.out.mono ?_
      rintro r w2 ⟨rfl, hb2⟩
      have HB2 : Hid (Below w.heap.size w w2) := Lib.hid (HB1.out.trans (hb2.mono HB1.out.size))
      clear hb2
      go_wp2
      go_ret
      exact item_end HS.out HR2.out (show (4 : Int) ≠ 3 by decide) HB2.out
  by_cases h3 : kd = 3
  · subst h3
    have HC := Lib.hid (HI.out w1 ty (Below.refl _ _))
    have HR : Hid (R = isM ⟨f, noN⟩ e ty) := Lib.hid (by rw [HE.out, if_neg h12, if_neg h4, if_pos rfl])
    obtain ⟨z, hz⟩ : ∃ z, isM ⟨f, noN⟩ e ty = z := ⟨_, rfl⟩
    rw [hz] at HC HR
    clear hz HE HJ HI h12 h1 h2 h4
    have HA : Hid (∀ W, Below w1.heap.size w1 W → Calls Tryz.prog 21 #[.agg #[.map (some b), .map none], .agg #[.string (str nm), .int .i64 ty]] W (AddPost W b n f ⟨nm, ty⟩)) := Lib.hid (fun W h => addS_any b (.map none) n f ⟨nm, ty⟩ W (HS.out.below (HBW.out W h)) hn hnm)
    go_enter Tryz.func45, Tryz.ntmps45
    go_wp2_with fail
    rw [HW1.out]
    go_wp2_with fail
    refine HC.out.mono ?_
    rintro r w2 ⟨rfl, hb2⟩
    have HB2 := Lib.hid hb2
    obtain ⟨⟨r0, r1⟩, r2, r3, r4, r5, r6⟩ := HX.out w2 hb2
    have HA2 := Lib.hid (HA.out w2 hb2)
    clear hb2
    go_wp2_with fail
    refine HA2.out.mono ?_
    rintro r w3 ⟨rfl, hS3, hs3, hg3⟩
    have HS3 := Lib.hid hS3
    have HG3 := Lib.hid hg3
    have HB2w : Hid (Below w.heap.size w w2) := Lib.hid (HBW.out w2 HB2.out)
    clear hS3 hg3
    go_wp2
    go_ret
    rw [HR.out]
    exact ⟨rfl, HS3.out, by have := HB2w.out.size; omega, ⟨HG3.out.os.trans HB2w.out.os, HG3.out.tape.trans HB2w.out.tape, HG3.out.output.trans HB2w.out.output, by have := HB2w.out.size; omega, fun j hj hne => (HG3.out.block j (by have := HB2w.out.size; omega) hne).trans (HB2w.out.block j hj)⟩⟩
  · have HR : Hid (R = 0) := Lib.hid (by rw [HE.out, if_neg h12, if_neg h4, if_neg h3])
    have b1 : (kd == 1) = false := by simpa using h1
    have b2 : (kd == 2) = false := by simpa using h2
    have b3 : (kd == 3) = false := by simpa using h3
    have b4 : (kd == 4) = false := by simpa using h4
    have HK := Lib.hid h3
    clear HE HJ HI h12 h1 h2 h4 h3
    go_enter Tryz.func45, Tryz.ntmps45
    go_wp2_with fail
    rw [HW1.out]
    go_wp2
    go_ret
    exact item_end HS.out HR.out HK.out HB1.out
end Go.Proofs.YtobkcdkffcenbaaGreatDoor.Ty

/- Layer types: a map that is copied; room for a row. Conditions: the map lies in memory. -/
namespace Go.Proofs.YtobkcdkffcenbaaGreatDoor.Ty
open Go.ChangeShapes Go.WideShapes Go.ChangeAt Go.RowKit
open Go.Proofs.YtobkcdkffcenbaaGreatDoor.Tr (str Bytes below_new)
theorem MapIs.copy {w : World} {b n : Nat} {f : Bytes → Option Value} (h : MapIs w b n f) : ∃ es clock, w.heap[b]? = some (.map es clock) ∧ MapIs (w.alloc (.map es clock)) w.heap.size n f := by
  obtain ⟨D, ⟨es, clock, h1, h2⟩, h3⟩ := h
  exact ⟨es, clock, h1, D, ⟨es, clock, heap_alloc_new w _, h2⟩, h3⟩
set_option maxRecDepth 100000 in
set_option maxHeartbeats 2000000 in
theorem clone_any (b n : Nat) (f : Bytes → Option Value) (w : World) (hm : MapIs w b n f) :
    Calls Tryz.prog 44 #[.map (some b)] w fun e w' => e = .returned (.map (some w.heap.size)) ∧ MapIs w' w.heap.size n f ∧ Below w.heap.size w w' := by
  obtain ⟨es, clock, hb, hm2⟩ := hm.copy
  have hq := fun w => run_eql_map_nil_sl (P := Tryz.prog) w 58 _ _ (some b) Tryz.underlying58
  have HM2 := Lib.hid hm2
  clear hm hm2
  go_enter Tryz.func44, Tryz.ntmps44
  go_wp2
  rw [run_callFunc_extern Tryz.func62 (by kernel_rfl) (by kernel_rfl) (by kernel_rfl) (e := Extern.MapsClone.clone) (by kernel_rfl), run_maps_clone_sl w 58 hb]
  simp only [Result.andThen]
  rw [Oper.upon_value]
  go_wp2
  rw [run_typeAssert_map_sl _ 58 _ _ _ _ Tryz.underlying58]
  simp only [Result.andThen]
  rw [Oper.upon_value]
  go_wp2
  go_ret
  exact ⟨rfl, HM2.out, below_new w _⟩
def prmsOf (l : List Pg.Prm) : List Value := l.flatMap fun p => [.string (str p.name), .int .i64 p.ty]
theorem infoPrm : (Tryz.prog.info? 45).map (fun i => (i.zero, i.size, i.bytes)) = some (some (.agg #[.string ⟨#[]⟩, .int .i64 0]), 2, 24) := by kernel_rfl
theorem zeros_len (z : Value) (n : Nat) : (Builtin.zeroCells z.cells n).size = n * z.cells.size := by
  unfold Builtin.zeroCells
  simp
set_option maxRecDepth 100000 in
set_option maxHeartbeats 2000000 in
theorem grow_nil (n : Nat) (w : World) (h0 : 0 < n) (hn : n ≤ 1000000) : Calls Tryz.prog 85 #[.slice none 0 0, .int .i64 (n : Int)] w fun e w' =>
    ∃ c, e = .returned (.slice (some ⟨w.heap.size, 0, none⟩) 0 c) ∧ w'.ownsRow w.heap.size 45 2 (.slice (some ⟨w.heap.size, 0, none⟩) 0 c) 0 [] ∧ Below w.heap.size w w' := by
  obtain ⟨i0, hi, hz0, hz1, hz2⟩ := info_parts infoPrm
  have hrun := Lib.run_append_nil_zeros (P := Tryz.prog) w 33 3 33 45 i0 _ .i64 .i64 Tryz.underlying33 Tryz.underlying3 hi hz0 n h0 (by rw [hz1]; omega) (by omega) (by rw [hz2]; omega)
  have hge := grownCap_ge w n 0 45
  have hle := grownCap_le_maxLen w n 0 45 (by unfold maxLen; omega)
  obtain ⟨cap, hcap⟩ : ∃ c, grownCap w n 0 45 = c := ⟨_, rfl⟩
  rw [hcap] at hrun hge hle
  have HO : Hid ((w.drew.alloc (.cells (Builtin.zeroCells (Value.agg #[.string ⟨#[]⟩, .int .i64 0]).cells n ++ Builtin.zeroCells (Value.agg #[.string ⟨#[]⟩, .int .i64 0]).cells (cap - n)) 45)).ownsRow w.heap.size 45 2 (.slice (some ⟨w.heap.size, 0, none⟩) 0 cap) 0 []) := Lib.hid (by
    refine ⟨by simp, .inr ⟨w.heap.size, cap, _, rfl, Nat.le_refl _, heap_alloc_new w.drew _, by omega, hle, ?_, by simp⟩⟩
    rw [Array.size_append, zeros_len, zeros_len]
    show n * 2 + (cap - n) * 2 = cap * 2
    omega)
  have h1 : ¬ ((n : Int) < 0) := by omega
  have h3 : wrap64 ((n : Int) - 0) = (n : Int) := by unfold wrap64; omega
  have h4 : ((n : Int) > 0) := by omega
  have hlem : cap ≤ 9223372036854775807 := by unfold maxLen at hle; omega
  have HB : Hid (Below w.heap.size w (w.drew.alloc (.cells (Builtin.zeroCells (Value.agg #[.string ⟨#[]⟩, .int .i64 0]).cells n ++ Builtin.zeroCells (Value.agg #[.string ⟨#[]⟩, .int .i64 0]).cells (cap - n)) 45))) := Lib.hid ((Below.refl _ w).drew.alloc (Nat.le_refl _) _)
  clear hcap
  go_enter Tryz.func85, Tryz.ntmps85
  go_wp2_with (at_builtin; refine Lib.wpList_append_run _ rfl _ _ _ _ rfl _ _ rfl rfl _ _ hrun ?_)
  go_wp2
  go_ret
  exact ⟨cap, rfl, HO.out, HB.out⟩
end Go.Proofs.YtobkcdkffcenbaaGreatDoor.Ty

/- Layer types: three rows of streams one behind the other. Conditions: the rows lie in memory. -/
namespace Go.Proofs.YtobkcdkffcenbaaGreatDoor.Ty
open Go.ChangeShapes Go.WideShapes Go.ChangeAt Go.RowKit Go.Deep
open Go.Proofs.YtobkcdkffcenbaaGreatDoor.Tr (str Bytes below_new)
open Go.Proofs.YtobkcdkffcenbaaGreatDoor.Pg (Prm Unt flat_at flat_len)
open Go.Proofs.YtobkcdkffcenbaaGreatDoor.Ow (PrmN UntN RowN rown_at rown_form)
theorem run_append_none {P : Program} {w : World} (base : Nat) (t ty e : TypeId) (i : TypeInfo) (size c : Nat) (ht : P.underlying t = some (.slice e)) (hi : P.info? e = some i)
    (v : Value) (n : Nat) (xs : List Value) (hown : w.ownsRow base e size v n xs) : (Builtin.append_ #[t, t] ty #[v, .slice none 0 c]).run P w = .ok v w := by
  rcases hown.2 with ⟨rfl, rfl⟩ | ⟨g, cap, cur, rfl, _, _, hnc, _⟩
  · simp [Builtin.append_, run_underlying ht, sizeOf, typeInfo, hi, Builtin.lenOf, Builtin.firstCells]
  · simp [Builtin.append_, run_underlying ht, sizeOf, typeInfo, hi, Builtin.lenOf, Builtin.firstCells, hnc, storeCells]
theorem append_none {P : Program} {w : World} {ops : Array Oper} {rest : List Oper} {o : Oper} {a : Act} {Q : Exit → Act → World → Prop} (hgd : o.guard = none) (s x : Operand) (t : TypeId)
    (ho : o.op = .call { callee := .builtin .append, args := #[s, x], argTypes := #[t, t] })
    (base : Nat) (e : TypeId) (i : TypeInfo) (size : Nat) (ht : P.underlying t = some (.slice e)) (hi : P.info? e = some i)
    (v : Value) (n : Nat) (xs : List Value) (hs : a.eval s = v) (hown : w.ownsRow base e size v n xs) (c : Nat) (hx : a.eval x = .slice none 0 c)
    (h : wpList P ops Q rest (a.put o.dst v) w) : wpList P ops Q (o :: rest) a w := by
  refine wpList_plain hgd fun K hK => ?_
  have hrun := run_append_none (P := P) (w := w) base t o.type e i size c ht hi v n xs hown
  unfold Oper.wp
  simp [execOp, ho, resolve, invoke, builtin, hs, hx, hrun, Result.andThen]
  exact hK _ _ h
theorem prms_flat (l : List Prm) : prmsOf l = (l.map fun p => [Value.string (str p.name), Value.int .i64 p.ty]).flatten := by unfold prmsOf; rw [List.flatMap_def]
theorem prms_len (l : List Prm) : (prmsOf l).length = l.length * 2 := by
  rw [prms_flat, flat_len (K := 2) _ (fun y hy => by obtain ⟨p, _, rfl⟩ := List.mem_map.1 hy; rfl), List.length_map]
theorem prms_app (l m : List Prm) : prmsOf (l ++ m) = prmsOf l ++ prmsOf m := by unfold prmsOf; rw [List.flatMap_append]
theorem prms_at (l : List Prm) (i : Nat) (p : Prm) (h : l[i]? = some p) (k : Nat) (hk : k < 2) : (prmsOf l)[i * 2 + k]? = [Value.string (str p.name), Value.int .i64 p.ty][k]? := by
  rw [prms_flat]
  exact flat_at (K := 2) _ i _ (fun y hy => by obtain ⟨p, _, rfl⟩ := List.mem_map.1 hy; rfl) (by rw [List.getElem?_map, h]; rfl) k hk
theorem prms_one (l : List Prm) : ∀ u ∈ prmsOf l, u.oneCell' = true := fun u hu => by
  unfold prmsOf at hu
  obtain ⟨p, _, hu⟩ := List.mem_flatMap.1 hu
  simp at hu
  rcases hu with rfl | rfl <;> rfl
theorem prm_news {w : World} {l : List Prm} {ad : Addr} {c : Nat} (h : RowN 2 PrmN w l (.slice (some ad) l.length c)) : ∀ j u, (prmsOf l)[j]? = some u → w.cell? (ad.add j) = some u := fun j u hu => by
  have hj := (List.getElem?_eq_some_iff.1 hu).1
  rw [prms_len] at hj
  obtain ⟨p, hp⟩ : ∃ p, l[j / 2]? = some p := ⟨_, List.getElem?_eq_getElem (by omega)⟩
  obtain ⟨g, o, c', x, hv, hg, hx, hxl, hcell⟩ := rown_at h hp
  simp only [Value.slice.injEq, Option.some.injEq, true_and] at hv
  obtain ⟨rfl, rfl⟩ := hv
  have e := prms_at l (j / 2) p hp (j % 2) (by omega)
  have hjj : j / 2 * 2 + j % 2 = j := by omega
  rw [hjj, hu] at e
  rw [Tr.add_none, ← hjj, ← Nat.add_assoc, hcell (j % 2) (by omega), hx.1]
  exact e.symm
theorem rown_own {w : World} {b : Nat} {v : Value} {l : List Prm} (h : w.ownsRow b 45 2 v l.length (prmsOf l)) (hs : ∀ p ∈ l, p.name.length ≤ maxLen) : RowN 2 PrmN w l v := by
  rcases h.2 with ⟨rfl, h0⟩ | ⟨g, c, cur, rfl, hb, hh, h1, h2, h3, h4⟩
  · have : l = [] := List.length_eq_zero_iff.1 h0
    subst this
    exact ⟨none, 0, rfl, by simp, by unfold maxLen; omega, fun i a h => by simp at h⟩
  · refine ⟨some ⟨g, 0, none⟩, c, rfl, h1, h2, fun i p hp => ⟨g, 0, _, rfl, (h.lt g rfl).2, ⟨rfl, hs p (List.mem_of_getElem? hp)⟩, rfl, fun k hk => ?_⟩⟩
    have hi := (List.getElem?_eq_some_iff.1 hp).1
    rw [Nat.zero_add, h.cellAt (i * 2 + k) (by omega)]
    exact prms_at l i p hp k hk
theorem sum_take (ls : List (List Prm)) (k : Nat) (l : List Prm) (h : ls[k]? = some l) : ((ls.take (k + 1)).map List.length).sum = ((ls.take k).map List.length).sum + l.length := by
  rw [List.take_add_one, h, show (some l).toList = [l] from rfl, List.map_append, List.sum_append]; simp
theorem flat_take (ls : List (List Prm)) (k : Nat) (l : List Prm) (h : ls[k]? = some l) : (ls.take (k + 1)).flatten = (ls.take k).flatten ++ l := by
  rw [List.take_add_one, h, show (some l).toList = [l] from rfl, List.flatten_append]; simp
theorem sum_le (ls : List (List Prm)) (k : Nat) : ((ls.take k).map List.length).sum ≤ (ls.map List.length).sum := by
  conv => rhs; rw [← List.take_append_drop k ls]
  rw [List.map_append, List.sum_append]; omega
theorem len_flat (ls : List (List Prm)) : ls.flatten.length = (ls.map List.length).sum := by simp [List.length_flatten]
set_option maxRecDepth 100000 in
set_option maxHeartbeats 8000000 in
theorem concat_any (B c : Nat) (ls : List (List Prm)) (vs : Array Value) (f : Nat × Nat) (w : World) (hX : w.heap[B]? = some (.cells vs 33 f)) (hlen : ls.length = 3) (hv : vs.size = 3) (hc : 3 ≤ c) (hcm : c ≤ maxLen) (hR : ∀ (k : Nat) (l : List Prm) (v : Value), ls[k]? = some l → vs[k]? = some v → RowN 2 PrmN w l v) (hpos : 0 < (ls.map List.length).sum) (hle : (ls.map List.length).sum ≤ 100000) :
    Calls Tryz.prog 61 #[.slice (some ⟨B, 0, none⟩) 3 c] w fun e w' => ∃ v, e = .returned v ∧ w'.ownsRow w.heap.size 45 2 v ls.flatten.length (prmsOf ls.flatten) ∧ Below w.heap.size w w' := by
  obtain ⟨i0, hi, hz0, hz1, hz2⟩ := info_parts infoPrm
  have HX := Lib.hid hX
  have HR := Lib.hid hR
  have HL := Lib.hid hlen
  have HVS := Lib.hid hv
  have lB := lt_of_block hX
  unfold maxLen at hcm
  obtain ⟨N, hN⟩ : ∃ N, (ls.map List.length).sum = N := ⟨_, rfl⟩
  have HN := Lib.hid hN
  have HG := Lib.hid (grow_nil N w (by omega) (by omega))
  rw [hN] at hpos hle
  clear hX hR hlen hv hN
  go_enter Tryz.func61, Tryz.ntmps61
  go_wp2
  go_loopw [3, 11] (fun s i wr => ∃ k : Nat, k ≤ 3 ∧ i = .int .i64 k ∧ s = .int .i64 (((ls.take k).map List.length).sum : Nat) ∧ wr = w) (fun _ i _ => 3 - (intOf i).toNat)
  case atStart => exact ⟨0, by omega, rfl, rfl, rfl⟩
  case round =>
    obtain ⟨k, hk, rfl, rfl, hwr⟩ := hrel
    have hwr' := hwr.symm
    clear hwr
    subst hwr'
    by_cases hlt : k < 3
    · obtain ⟨l, hl⟩ : ∃ l, ls[k]? = some l := ⟨_, List.getElem?_eq_getElem (by have := HL.out; omega)⟩
      obtain ⟨v, hvk⟩ : ∃ v, vs[k]? = some v := ⟨_, Array.getElem?_eq_getElem (by have := HVS.out; omega)⟩
      obtain ⟨A, cc, rfl, z1, z2, -⟩ := rown_form (HR.out k l v hl hvk)
      have q0 : w.cell? ⟨B, k, none⟩ = some (.slice A l.length cc) := (cells_at HX.out k).trans hvk
      have hs := sum_take ls k l hl
      have hsl := sum_le ls (k + 1)
      rw [HN.out] at hsl
      obtain ⟨S, hS⟩ : ∃ S, ((ls.take k).map List.length).sum = S := ⟨_, rfl⟩
      rw [hS] at hs ⊢
      have HS := Lib.hid hs
      have hb1 : S + l.length ≤ 100000 := by omega
      have hki : (k : Int) < 3 := by omega
      clear hl hvk hS hs hsl
      go_wp2
      refine ⟨⟨k + 1, by omega, by go_num, by rw [HS.out]; congr 1, by first | rfl | trivial⟩, by simp [intOf]; omega⟩
    · have hk3 : k = 3 := by omega
      subst hk3
      have HS : Hid (((ls.take 3).map List.length).sum = N) := Lib.hid (by rw [← HN.out, List.take_of_length_le (by have := HL.out; omega)])
      rw [HS.out]
      go_wp2_with fail
      refine HG.out.mono ?_
      rintro r w2 ⟨cg, rfl, hown, hb2⟩
      have HB2 := Lib.hid hb2
      have HO2 : Hid (w2.ownsRow w.heap.size 45 2 (.slice (some ⟨w.heap.size, 0, none⟩) 0 cg) ((ls.take 0).flatten).length (prmsOf (ls.take 0).flatten)) := Lib.hid hown
      clear hown hb2
      go_wp2
      go_loopw [6, 27] (fun nv i wq => ∃ (k : Nat) (nv' : Value), nv' = nv ∧ k ≤ 3 ∧ i = .int .i64 k ∧ wq.ownsRow w.heap.size 45 2 nv' ((ls.take k).flatten).length (prmsOf (ls.take k).flatten) ∧ Below w.heap.size w wq) (fun _ i _ => 3 - (intOf i).toNat)
      case atStart => exact ⟨0, _, rfl, by omega, rfl, HO2.out, HB2.out⟩
      case round =>
        obtain ⟨k, nv', rfl, hk, rfl, hown, hb⟩ := hrel
        have HO := Lib.hid hown
        have HB := Lib.hid hb
        by_cases hlt : k < 3
        · obtain ⟨l, hl⟩ : ∃ l, ls[k]? = some l := ⟨_, List.getElem?_eq_getElem (by have := HL.out; omega)⟩
          obtain ⟨v, hvk⟩ : ∃ v, vs[k]? = some v := ⟨_, Array.getElem?_eq_getElem (by have := HVS.out; omega)⟩
          have hrow := HR.out k l v hl hvk
          have HROW := Lib.hid hrow
          obtain ⟨A, cc, rfl, z1, z2, z3⟩ := rown_form hrow
          have q0 : wr.cell? ⟨B, k, none⟩ = some (.slice A l.length cc) := (hb.cell (p := ⟨B, k, none⟩) lB).trans ((cells_at HX.out k).trans hvk)
          have lBq : B < wr.heap.size := by have := hb.size; omega
          have HF := Lib.hid (flat_take ls k l hl)
          have hfl : ((ls.take k).flatten).length + l.length ≤ 100000 := by
            have h1 := congrArg List.length HF.out
            rw [List.length_append, len_flat, ] at h1
            have h2 := sum_le ls (k + 1)
            rw [HN.out] at h2
            omega
          have hsz := hb.size
          have hki : (k : Int) < 3 := by omega
          clear hl hvk hrow hown hb
          cases A with
          | none =>
            have hl0 : l = [] := by
              cases hl0 : l with
              | nil => rfl
              | cons a r =>
                obtain ⟨g, o, c', x, hv, -⟩ := rown_at HROW.out (i := 0) (a := a) (by rw [hl0]; rfl)
                simp at hv
            subst hl0
            have HO3 : Hid (wr.ownsRow w.heap.size 45 2 nv' ((ls.take (k + 1)).flatten).length (prmsOf (ls.take (k + 1)).flatten)) := Lib.hid (by rw [HF.out, List.append_nil]; exact HO.out)
            go_wp2_with (at_builtin; refine append_none rfl (.tmp 31) (.tmp 32) 33 rfl w.heap.size 45 i0 2 Tryz.underlying33 hi _ ((ls.take k).flatten).length _ rfl HO.out cc rfl ?_)
            go_wp2
            refine ⟨⟨k + 1, _, rfl, by omega, by go_num, HO3.out, HB.out⟩, by simp [intOf]; omega⟩
          | some ad =>
            go_wp2_with (at_builtin; refine wpList_append_own _ rfl (.tmp 31) (.tmp 32) 33 rfl w.heap.size 45 i0 _ 2 24 Tryz.underlying33 hi hz0 hz1 hz2 rfl (by decide) _ ((ls.take k).flatten).length (prmsOf (ls.take k).flatten) rfl HO.out ad l.length cc (prmsOf l) rfl ?a0 ?a1 ?b1 ?c1 ?d1 ?e1 ?_)
            case a0 => exact prms_len l
            case a1 => exact prm_news (HROW.out.below HB.out (Ow.PrmN.below HB.out))
            case b1 => exact prms_one l
            case c1 => unfold maxLen; omega
            case d1 => omega
            case e1 => exact hsz
            intro v' w4 hown4 hgrow _
            have HO4 : Hid (w4.ownsRow w.heap.size 45 2 v' ((ls.take (k + 1)).flatten).length (prmsOf (ls.take (k + 1)).flatten)) := Lib.hid (by
              have e : (List.take k (List.map List.length ls)).sum = (ls.take k).flatten.length := by rw [len_flat, List.map_take]
              rw [HF.out, List.length_append, prms_app, ← e]; exact hown4)
            have HB4 : Hid (Below w.heap.size w w4) := Lib.hid (HB.out.grown hgrow hsz (fun j hj => (HO.out.lt j hj).1))
            clear hown4 hgrow
            go_wp2
            refine ⟨⟨k + 1, _, rfl, by omega, by go_num, HO4.out, HB4.out⟩, by simp [intOf]; omega⟩
        · have hk3 : k = 3 := by omega
          subst hk3
          have HO3 : Hid (wr.ownsRow w.heap.size 45 2 nv' ls.flatten.length (prmsOf ls.flatten)) := Lib.hid (by
            have := HO.out
            rw [List.take_of_length_le (by have := HL.out; omega)] at this; exact this)
          clear hown hb
          go_wp2
          go_ret
          exact ⟨_, rfl, HO3.out, HB.out⟩
end Go.Proofs.YtobkcdkffcenbaaGreatDoor.Ty

/- Layer types: a unit's streams. Conditions: the unit lies in memory. -/
namespace Go.Proofs.YtobkcdkffcenbaaGreatDoor.Ty
open Go.ChangeShapes Go.WideShapes Go.ChangeAt Go.RowKit
open Go.Proofs.YtobkcdkffcenbaaGreatDoor.Tr (str Bytes below_new)
open Go.Proofs.YtobkcdkffcenbaaGreatDoor.Pg (Prm Unt)
open Go.Proofs.YtobkcdkffcenbaaGreatDoor.Ow (PrmN UntN RowN rown_at rown_form)
def streamsM (u : Unt) : List Prm := if u.contract = true then u.ins else u.ins ++ [u.out] ++ u.vars
def RowPost (w : World) (l : List Prm) (e : Ending) (w' : World) : Prop := ∃ v, e = .returned v ∧ RowN 2 PrmN w' l v ∧ Below w.heap.size w w'
theorem names_short {w : World} {l : List Prm} {v : Value} (h : RowN 2 PrmN w l v) : ∀ p ∈ l, p.name.length ≤ maxLen := fun p hp => by
  obtain ⟨i, hi⟩ := List.mem_iff_getElem?.1 hp
  obtain ⟨g, o, c', x, hv, hg, hx, hxl, hcell⟩ := rown_at h hi
  exact hx.2
set_option maxRecDepth 100000 in
set_option maxHeartbeats 4000000 in
theorem streams_any (u : Unt) (x : List Value) (w : World) (hu : UntN w u x) (h1 : u.ins.length ≤ 1000) (h2 : u.vars.length ≤ 1000) : Calls Tryz.prog 43 #[.agg x.toArray] w (RowPost w (streamsM u)) := by
  obtain ⟨iv, vv, qv, lv, rfl, u1, u2, u3, u4, hs, hso⟩ := hu
  have U1 := Lib.hid u1
  have U2 := Lib.hid u2
  obtain ⟨Ai, ci, rfl, i1, i2, -⟩ := rown_form u1
  obtain ⟨Av, cv, rfl, -, -, -⟩ := rown_form u2
  obtain ⟨Aq, cq, rfl, -, -, -⟩ := rown_form u3
  obtain ⟨Al, cl, rfl, -, -, -⟩ := rown_form u4
  clear u1 u2 u3 u4
  cases hc : u.contract with
  | true =>
    have HE : Hid (streamsM u = u.ins) := Lib.hid (by unfold streamsM; rw [if_pos hc])
    rw [HE.out]
    clear hc
    go_enter Tryz.func43, Tryz.ntmps43
    go_wp2
    go_ret
    exact ⟨_, rfl, U1.out.below (below_new w _) (Ow.PrmN.below (below_new w _)), below_new w _⟩
  | false =>
    have HE : Hid (streamsM u = [u.ins, [u.out], u.vars].flatten) := Lib.hid (by unfold streamsM; rw [if_neg (by rw [hc]; simp)]; simp)
    rw [HE.out]
    obtain ⟨w1, hw1⟩ : ∃ W, w.alloc (.cells #[.bool false, .string (str u.name), .slice Ai u.ins.length ci, .string (str u.out.name), .int .i64 u.out.ty, .slice Av u.vars.length cv, .slice Aq u.eqs.length cq, .slice Al u.items.length cl] 49) = W := ⟨_, rfl⟩
    have hb1 : Below w.heap.size w w1 := hw1 ▸ below_new w _
    obtain ⟨w2, hw2⟩ : ∃ W, w1.alloc (.cells #[.string (str u.out.name), .int .i64 u.out.ty] 45) = W := ⟨_, rfl⟩
    have hb2 : Below w1.heap.size w1 w2 := hw2 ▸ below_new w1 _
    have n1 : w1.heap.size = w.heap.size + 1 := by rw [← hw1]; simp
    have n2 : w2.heap.size = w.heap.size + 1 + 1 := by rw [← hw2]; simp [n1]
    have hX2 : w2.heap[w.heap.size + 1]? = some (.cells #[.string (str u.out.name), .int .i64 u.out.ty] 45 (0, 0)) := by rw [← n1, ← hw2]; exact heap_alloc_new w1 _
    obtain ⟨w3, hw3⟩ : ∃ W, w2.alloc (.cells #[.slice Ai u.ins.length ci, .slice (some ⟨w.heap.size + 1, 0, none⟩) 1 1, .slice Av u.vars.length cv] 33) = W := ⟨_, rfl⟩
    have hb3 : Below w2.heap.size w2 w3 := hw3 ▸ below_new w2 _
    have hX3 : w3.heap[w.heap.size + 1 + 1]? = some (.cells #[.slice Ai u.ins.length ci, .slice (some ⟨w.heap.size + 1, 0, none⟩) 1 1, .slice Av u.vars.length cv] 33 (0, 0)) := by rw [← n2, ← hw3]; exact heap_alloc_new w2 _
    have hb13 : Below w.heap.size w w3 := hb1.trans ((hb2.trans (hb3.mono hb2.size)).mono hb1.size)
    have l1 := lt_of_block hX2
    have hX2' := (hb3.block _ l1).trans hX2
    have hone : RowN 2 PrmN w3 [u.out] (.slice (some ⟨w.heap.size + 1, 0, none⟩) 1 1) := by
      refine ⟨some ⟨w.heap.size + 1, 0, none⟩, 1, rfl, by simp, by unfold maxLen; omega, fun i a ha => ?_⟩
      match i, ha with
      | 0, ha =>
        simp at ha; subst ha
        refine ⟨w.heap.size + 1, 0, _, rfl, lt_of_block hX2', ⟨rfl, hso⟩, rfl, fun k hk => ?_⟩
        rw [cells_at hX2']
        match k, hk with
        | 0, _ => rfl
        | 1, _ => rfl
      | i + 1, ha => simp at ha
    have HC := Lib.hid (concat_any (w.heap.size + 1 + 1) 3 [u.ins, [u.out], u.vars] _ _ w3 hX3 rfl rfl (Nat.le_refl _) (by unfold maxLen; omega) (fun k l v hl hv => by
      match k, hl, hv with
      | 0, hl, hv => simp at hl hv; subst hl hv; exact U1.out.below hb13 (Ow.PrmN.below hb13)
      | 1, hl, hv => simp at hl hv; subst hl hv; exact hone
      | 2, hl, hv => simp at hl hv; subst hl hv; exact U2.out.below hb13 (Ow.PrmN.below hb13)
      | k + 3, hl, hv => simp at hl) (by simp; omega) (by simp; omega))
    have HB13 := Lib.hid hb13
    have HW1 := Lib.hid hw1
    have HW2 := Lib.hid hw2
    have HW3 := Lib.hid hw3
    have HSH : Hid (∀ p ∈ [u.ins, [u.out], u.vars].flatten, p.name.length ≤ maxLen) := Lib.hid (fun p hp => by
      simp at hp
      rcases hp with hp | rfl | hp
      · exact names_short U1.out p hp
      · exact hso
      · exact names_short U2.out p hp)
    clear hw1 hw2 hw3 hb1 hb2 hb3 hX2 hX3 hb13 hX2' hone n1 n2 l1
    go_enter Tryz.func43, Tryz.ntmps43
    go_wp2_with fail
    rw [HW1.out, HW2.out, HW3.out]
    refine HC.out.mono ?_
    rintro r w4 ⟨v, rfl, hown, hb4⟩
    have HR := Lib.hid (rown_own hown HSH.out)
    have HB4 : Hid (Below w.heap.size w w4) := Lib.hid (HB13.out.trans (hb4.mono HB13.out.size))
    clear hown hb4
    go_wp2
    go_ret
    exact ⟨_, rfl, HR.out, HB4.out⟩
end Go.Proofs.YtobkcdkffcenbaaGreatDoor.Ty

