/- The function live of the statements of layer types answers true and leaves what was there as it was. Conditions: the table lies in memory. -/
import Derived.Test.YtlhcajhgbkgjbaaDoorRa17
import Derived.Test.YtlhcajhgbkgjbaaDoorRows
import Derived.Test.YtlhcajhgbkgjbaaDoorTie
import Derived.ProofKit
import Derived.LaidMore
import Derived.OpenShut
import Derived.Stop.Joined
import Derived.Test.YtlhcajhgbkgjbaaDoorRa04
set_option linter.unusedVariables false
set_option linter.unusedSimpArgs false
namespace Go.Proofs.YtlhcajhgbkgjbaaDoor.Ty
open Go.ChangeShapes Go.WideShapes Go.ChangeAt Go.RowKit
open Ex Pg Rp
open Tr (str ka1 ka5 Bytes Nd Nodes T Lab Short below_new)
open Go.Proofs.YtlhcajhgbkgjbaaDoor.Ow (PrmN UntN RowN)
attribute [local go_sem ↓] Lx.eql_fault Lx.guard_fault
theorem kfN (a : Int) : Lx.faultB a a 0 0 = true := by unfold Lx.faultB; simp
theorem fit6 : Ow.FitU u6 := by
  refine ⟨by show 1 <= maxLen; unfold maxLen; omega, by show 1 <= maxLen; unfold maxLen; omega, fun p hp => ?_, fun p hp => ?_, fun q hq => ?_, fun i hi => ?_⟩
  · have : p = ⟨[97], 2⟩ := by simpa [u6] using hp
    subst this
    show 1 <= maxLen
    unfold maxLen; omega
  · simp [u6] at hp
  · have : q = ⟨[99], tA.flat 0⟩ := by simpa [u6] using hq
    subst this
    exact ⟨by show 1 <= maxLen; unfold maxLen; omega, keP (by decide)⟩
  · simp [u6] at hi
theorem small6 : ∀ u ∈ [u6], SmallU u := fun u hu => by
  simp at hu; subst hu
  exact ⟨by show 1 <= 1000; omega, by show 0 <= 1000; omega, by show 0 <= 1000000; omega⟩
theorem khl {us : List Unt} {uv : Value} {S B : ByteArray} {m b : Bytes} {x : Int × Int} {w : World} (hS : S = str m) (hB : B = str b) (hT : ShAt w) (hu : RowN 8 UntN w us uv) (hs : ∀ u ∈ us, SmallU u) (h : kds 0 noN us = x) :
    Calls Tryd.prog 11 #[.agg #[uv, .string S, .string B]] w (kj0 w x) := by
  subst h; subst hS; subst hB; exact check_any us uv m b w hT hu hs
theorem row_l {w W : World} {B : Nat} (h : W.heap[B]? = some (.cells #[.string (str [97]), .int .i64 2, .string (str [98]), .int .i64 1] 35 (0, 0))) : RowN 2 PrmN W lL (.slice (some ⟨B, 0, none⟩) 2 2) := by
  refine ⟨some ⟨B, 0, none⟩, 2, rfl, Nat.le_refl _, by unfold maxLen; omega, fun i a ha => ?_⟩
  match i, ha with
  | 0, ha =>
    simp [lL] at ha; subst ha
    refine ⟨B, 0, _, rfl, lt_of_block h, ⟨rfl, by show 1 <= maxLen; unfold maxLen; omega⟩, rfl, fun k hk => ?_⟩
    rw [ka3 h]
    match k, hk with
    | 0, _ => rfl
    | 1, _ => rfl
  | 1, ha =>
    simp [lL] at ha; subst ha
    refine ⟨B, 0, _, rfl, lt_of_block h, ⟨rfl, by show 1 <= maxLen; unfold maxLen; omega⟩, rfl, fun k hk => ?_⟩
    rw [ka3 h]
    match k, hk with
    | 0, _ => rfl
    | 1, _ => rfl
  | i + 2, ha => simp [lL] at ha
theorem keA {α : Type} (K : Nat) (R : World -> α -> List Value -> Prop) (w : World) : RowN K R w [] (.slice none 0 0) := ⟨none, 0, rfl, Nat.le_refl _, by unfold maxLen; omega, fun i a h => by simp at h⟩
theorem row_u {w W : World} {B C : Nat} (h : W.heap[B]? = some (.cells #[.string (str [97]), .int .i64 2, .string (str [98]), .int .i64 1] 35 (0, 0)))
    (k : W.heap[C]? = some (.cells #[.bool false, .string (str [102]), .slice (some ⟨B, 0, none⟩) 2 2, .string (str [99]), .int .i64 2, .slice none 0 0, .slice none 0 0, .slice none 0 0] 39 (0, 0))) : RowN 8 UntN W uL (.slice (some ⟨C, 0, none⟩) 1 1) := by
  refine ⟨some ⟨C, 0, none⟩, 1, rfl, Nat.le_refl _, by unfold maxLen; omega, fun i a ha => ?_⟩
  match i, ha with
  | 0, ha =>
    simp [uL] at ha; subst ha
    refine ⟨C, 0, _, rfl, lt_of_block k, ⟨_, _, _, _, rfl, row_l (w := W) h, keA _ _ _, keA _ _ _, keA _ _ _, by show 1 <= maxLen; unfold maxLen; omega, by show 1 <= maxLen; unfold maxLen; omega⟩, rfl, fun j hj => ?_⟩
    rw [ka3 k]
    match j, hj with
    | 0, _ => rfl
    | 1, _ => rfl
    | 2, _ => rfl
    | 3, _ => rfl
    | 4, _ => rfl
    | 5, _ => rfl
    | 6, _ => rfl
    | 7, _ => rfl
  | i + 1, ha => simp [uL] at ha
set_option maxRecDepth 100000 in
set_option maxHeartbeats 8000000 in
theorem kjp (w : World) (hT : ShAt w) : Calls Tryd.prog 5 #[] w (fun e w' => e = .returned (.bool true) /\ Below w.heap.size w w') := by
  have hf1 := kfN 10
  have hf0 := kfN 0
  have N := kaV w (.cells #[.string (str [97]), .int .i64 2, .string (str [98]), .int .i64 1] 35) (.cells #[.bool false, .string (str [102]), .slice (some ⟨w.heap.size, 0, none⟩) 2 2, .string (str [99]), .int .i64 2, .slice none 0 0, .slice none 0 0, .slice none 0 0] 39)
  obtain ⟨w2, hw2⟩ : ∃ W, (w.alloc (.cells #[.string (str [97]), .int .i64 2, .string (str [98]), .int .i64 1] 35)).alloc (.cells #[.bool false, .string (str [102]), .slice (some ⟨w.heap.size, 0, none⟩) 2 2, .string (str [99]), .int .i64 2, .slice none 0 0, .slice none 0 0, .slice none 0 0] 39) = W := ⟨_, rfl⟩
  rw [hw2] at N
  have l1 := lt_of_block N.2.1
  have l2 := lt_of_block N.2.2
  have HB2 := Lib.hid N.1
  have HTW : Hid (∀ W, Below w2.heap.size w2 W -> ShAt W) := Lib.hid (fun W h => hT.below (N.1.trans (h.mono N.1.size)) hT.1)
  have HO : Hid (∀ (W : World) (v : Value) (e : List Nd) (x : Int × Int), Below w2.heap.size w2 W -> Nodes W v e -> Short e -> tyM eL e = x -> Calls Tryd.prog 6 #[v, .slice (some ⟨w.heap.size, 0, none⟩) 2 2, .slice (some ⟨w.heap.size + 1, 0, none⟩) 1 1] W (fun e' W' => e' = .returned (.tuple #[.int .i64 x.1, .int .i64 x.2]) /\ Below w2.heap.size w2 W')) := Lib.hid (fun W v e x h hv hs hx => by
    have a1 := (h.block _ l1).trans N.2.1
    have a2 := (h.block _ l2).trans N.2.2
    have := Of_any v _ _ e lL uL W (hT.below (N.1.trans (h.mono N.1.size)) hT.1) hv hs (row_l (w := W) a1) (row_u (w := W) a1 a2)
    rw [hx] at this
    exact this.mono (fun r W' hh => ⟨hh.1, h.trans (hh.2.mono h.size)⟩))
  have HRD : Hid (∀ (W : World) (S : ByteArray) (s : Bytes) (l : List Nd), Below w2.heap.size w2 W -> S = str s -> kcc s = (l, 0, 0) -> s.length <= 1000000 -> (Lx.lexM s).toks.length <= 20000 -> Calls Tryd.prog 9 #[.string S] W (fun e' W' => ∃ v, e' = .returned v /\ Nodes W' v l /\ Below w2.heap.size w2 W')) := Lib.hid (fun W S s l h h1 h2 h3 h4 =>
    (lread_any (w := W) h1 h2 h3 (short_lex h4)).mono (fun r W' ⟨v, hh1, hh2, hh3⟩ => ⟨v, hh1, hh2, h.trans (hh3.mono h.size)⟩))
  have HW2 := Lib.hid hw2
  clear N l1 l2 hw2 hT
  go_enter Tryd.func5, Tryd.ntmps5
  go_wp2_with fail
  first | rw [HW2.out] | (change Calls Tryd.prog 9 #[.string (str s1)] ((w.alloc (.cells #[.string (str [97]), .int .i64 2, .string (str [98]), .int .i64 1] 35)).alloc (.cells #[.bool false, .string (str [102]), .slice (some ⟨w.heap.size, 0, none⟩) 2 2, .string (str [99]), .int .i64 2, .slice none 0 0, .slice none 0 0, .slice none 0 0] 39)) _; rw [HW2.out])
  refine (HRD.out _ _ s1 _ (Below.refl _ _) rfl read1 (by decide) sh1).mono ?_
  rintro e w3 ⟨v1, rfl, hv1, hb3⟩
  have HB3 := Lib.hid hb3
  have HC1 := Lib.hid (HO.out w3 v1 _ _ hb3 hv1 (keP (by decide)) ty1')
  obtain ⟨A1, c1, rfl, -⟩ := hv1
  clear hb3
  go_wp2_with fail
  refine HC1.out.mono ?_
  rintro e w4 ⟨rfl, hb4⟩
  have HB4 := Lib.hid hb4
  clear hb4
  go_wp2_with fail
  refine (HRD.out _ _ s2 _ HB4.out rfl read2 (by decide) sh2).mono ?_
  rintro e w5 ⟨v2, rfl, hv2, hb5⟩
  have HB5 := Lib.hid hb5
  have HC2 := Lib.hid (HO.out w5 v2 _ _ hb5 hv2 (keP (by decide)) ty2')
  obtain ⟨A2, c2, rfl, -⟩ := hv2
  clear hb5
  go_wp2_with fail
  refine HC2.out.mono ?_
  rintro e w6 ⟨rfl, hb6⟩
  have HB6 := Lib.hid hb6
  clear hb6
  go_wp2_with fail
  refine (HRD.out _ _ s3 _ HB6.out rfl read3 (by decide) sh3).mono ?_
  rintro e w7 ⟨v3, rfl, hv3, hb7⟩
  have HB7 := Lib.hid hb7
  have HC3 := Lib.hid (HO.out w7 v3 _ _ hb7 hv3 (keP (by decide)) ty3')
  obtain ⟨A3, c3, rfl, -⟩ := hv3
  clear hb7
  go_wp2_with fail
  refine HC3.out.mono ?_
  rintro e w8 ⟨rfl, hb8⟩
  have HB8 := Lib.hid hb8
  clear hb8
  go_wp2_with fail
  refine (HRD.out _ _ s4 _ HB8.out rfl read4 (by decide) sh4).mono ?_
  rintro e w9 ⟨v4, rfl, hv4, hb9⟩
  have HB9 := Lib.hid hb9
  have HC4 := Lib.hid (HO.out w9 v4 _ _ hb9 hv4 (keP (by decide)) ty4')
  obtain ⟨A4, c4, rfl, -⟩ := hv4
  clear hb9
  go_wp2_with fail
  refine HC4.out.mono ?_
  rintro e w10 ⟨rfl, hb10⟩
  have HB10 := Lib.hid hb10
  clear hb10
  go_wp2_with fail
  refine (HRD.out _ _ s5 _ HB10.out rfl read5 (by decide) sh5).mono ?_
  rintro e w11 ⟨v5, rfl, hv5, hb11⟩
  have HB11 := Lib.hid hb11
  have HC5 := Lib.hid (HO.out w11 v5 _ _ hb11 hv5 (keP (by decide)) ty5')
  obtain ⟨A5, c5, rfl, -⟩ := hv5
  clear hb11
  go_wp2_with fail
  refine HC5.out.mono ?_
  rintro e w12 ⟨rfl, hb12⟩
  have HB12 := Lib.hid hb12
  clear hb12
  go_wp2_with fail
  refine (HO.out w12 _ [] _ HB12.out (PtW.nil w12 ⟨[], 0, 0⟩ rfl).1 (fun x hx => by simp at hx) ty0').mono ?_
  rintro e w13 ⟨rfl, hb13⟩
  have HB13 := Lib.hid hb13
  clear hb13
  go_wp2_with fail
  refine (parse6 _ _ rfl).mono ?_
  rintro e w20 ⟨uv, rfl, hu, hb20⟩
  have HU20 := Lib.hid (Ow.row_read (S := UntN) hu (fun a ha x h => by simp at ha; subst ha; exact Ow.unt_read _ _ fit6 h))
  have HB20 : Hid (Below w2.heap.size w2 w20) := Lib.hid (HB13.out.trans (hb20.mono HB13.out.size))
  obtain ⟨A6, n6, c6, rfl, -, -⟩ := kan hu
  have N9 := kaV w20 (.cells #[.slice A6 n6 c6, .string (str [102]), .string (str [])] 43) (.cells #[.int .i64 0, .int .i64 0] 45)
  obtain ⟨w21, hw21⟩ : ∃ W, (w20.alloc (.cells #[.slice A6 n6 c6, .string (str [102]), .string (str [])] 43)).alloc (.cells #[.int .i64 0, .int .i64 0] 45) = W := ⟨_, rfl⟩
  rw [hw21] at N9
  have HU21 := Lib.hid (HU20.out.below N9.1 (UntN.below N9.1))
  have HB21 : Hid (Below w2.heap.size w2 w21) := Lib.hid (HB20.out.trans (N9.1.mono HB20.out.size))
  have p0 : w21.cell? ⟨w20.heap.size, 0, none⟩ = some (.slice A6 n6 c6) := (ka3 N9.2.1 0).trans rfl
  have p1 : w21.cell? ⟨w20.heap.size, 1, none⟩ = some (.string (str [102])) := (ka3 N9.2.1 1).trans rfl
  have p2 : w21.cell? ⟨w20.heap.size, 2, none⟩ = some (.string (str [])) := (ka3 N9.2.1 2).trans rfl
  have lp := lt_of_block N9.2.1
  have HW21 := Lib.hid hw21
  clear hu hb20 N9 hw21
  go_wp2_with fail
  rw [HW21.out]
  refine (khl (m := [102]) (b := []) rfl rfl (HTW.out w21 HB21.out) HU21.out small6 check6).mono ?_
  rintro e w22 ⟨rfl, hb22⟩
  have HB22 : Hid (Below w2.heap.size w2 w22) := Lib.hid (HB21.out.trans (hb22.mono HB21.out.size))
  clear hb22
  go_wp2_with fail
  refine (khl (m := []) (b := []) (us := []) (x := (0, 0)) rfl rfl (HTW.out w22 HB22.out) (keA _ _ _) (fun u hu => by simp at hu) rfl).mono ?_
  rintro e w23 ⟨rfl, hb23⟩
  have HB23 : Hid (Below w.heap.size w w23) := Lib.hid (HB2.out.trans ((HB22.out.trans (hb23.mono HB22.out.size)).mono HB2.out.size))
  clear hb23
  go_wp2
  go_ret
  exact ⟨rfl, HB23.out⟩
end Go.Proofs.YtlhcajhgbkgjbaaDoor.Ty

/- What the listed variable is worth to layer types; rows that are arguments. Conditions: it reads as its own text lays it. -/
namespace Go.Proofs.YtlhcajhgbkgjbaaDoor.Ty
open Go.ChangeShapes Go.WideShapes Go.ChangeAt Go.WideMaps Go.WideElems Go.RowKit
open Pg (Prm Unt)
set_option maxRecDepth 100000
def laid1 : List (String × DataW Unit) := [("bailment/types.shapes", Rows.laid_bailment_types_shapes)]
theorem gShp : Tryd.prog.globalNamed "bailment/types.shapes" = some 0 := by kernel_rfl
def ki0 : List (DataW Unit) := (List.range 27).map (fun (k : Nat) => .agg [.agg [.lit (.int .i64 (kaq k).1), .lit (.int .i64 (kaq k).2.1), .lit (.int .i64 (kaq k).2.2.1)], .lit (.int .i64 (kaq k).2.2.2)])
theorem shp_eq : Rows.laid_bailment_types_shapes = DataW.agg ki0 := by kernel_rfl
theorem kjD : Tryd.prog.cellsOf 113 = 4 := by kernel_rfl
theorem cellsTab : Tryd.prog.cellsOf 114 = 108 := by kernel_rfl
theorem kgA : Tryd.prog.cellsOf 111 = 3 := by kernel_rfl
theorem kgz : Tryd.prog.cellsOf 3 = 1 := by kernel_rfl
theorem arr_cells {enc : TypeId × Value -> Unit} {w : World} {base : Nat} {sp : Nat -> Bool} {held : Bool} {fuel : Nat} {v0 v1 v2 : Value} {a b c : Int} {p : List MemPlace}
    (h : DataW.trod enc Tryd.prog w base sp held fuel 111 [v0, v1, v2] = some (.agg [.lit (.int .i64 a), .lit (.int .i64 b), .lit (.int .i64 c)], p)) : v0 = .int .i64 a /\ v1 = .int .i64 b /\ v2 = .int .i64 c := by
  cases fuel with
  | zero => simp [DataW.trod] at h
  | succ fuel =>
    simp only [DataW.trod, Tryd.underlying111, kgA, kgz] at h
    split at h
    · obtain ⟨xs, hm, hx⟩ := Option.map_eq_some_iff.1 h
      have hxs : xs.map (·.1) = [.lit (.int .i64 a), .lit (.int .i64 b), .lit (.int .i64 c)] := by
        have := congrArg Prod.fst hx
        simpa using this
      have one : ∀ (k : Nat) (v : Value) (z : Int), k < 3 -> [v0, v1, v2][k]? = some v -> [a, b, c][k]? = some z -> v = .int .i64 z := fun k v z hk hv hz => by
        obtain ⟨y, hy, hf⟩ := Lib.mapM_at hm k k (by simp [hk])
        have h2 : (xs.map (·.1))[k]? = some y.1 := by simp [hy]
        rw [hxs] at h2
        have h3 : y.1 = .lit (.int .i64 z) := by
          match k, hk with
          | 0, _ => simp at h2 hz; rw [<- h2, hz]
          | 1, _ => simp at h2 hz; rw [<- h2, hz]
          | 2, _ => simp at h2 hz; rw [<- h2, hz]
        have hv' : ([v0, v1, v2].drop (k * 1)).take 1 = [v] := by
          match k, hk with
          | 0, _ => simp at hv ⊢; exact hv
          | 1, _ => simp at hv ⊢; exact hv
          | 2, _ => simp at hv ⊢; exact hv
        rw [hv'] at hf
        obtain ⟨n, e1, q1, _⟩ := DataW.trod_int Tryd.underlying3 hf
        simp only [List.cons.injEq, and_true] at e1
        subst e1
        subst q1
        simp only [DataW.lit.injEq, Lit.int.injEq, true_and] at h3
        rw [h3]
      exact ⟨one 0 v0 a (by omega) rfl rfl, one 1 v1 b (by omega) rfl rfl, one 2 v2 c (by omega) rfl rfl⟩
    · cases h
theorem shp_cells {enc : TypeId × Value -> Unit} {w : World} {base : Nat} {sp : Nat -> Bool} {held : Bool} {fuel : Nat} {cs : List Value} {p : List MemPlace}
    (h : DataW.trod enc Tryd.prog w base sp held fuel 114 cs = some (Rows.laid_bailment_types_shapes, p)) (k : Nat) (hk : k < 27) :
    cs[k * 4]? = some (.int .i64 (kaq k).1) /\ cs[k * 4 + 1]? = some (.int .i64 (kaq k).2.1) /\ cs[k * 4 + 2]? = some (.int .i64 (kaq k).2.2.1) /\ cs[k * 4 + 3]? = some (.int .i64 (kaq k).2.2.2) := by
  rw [shp_eq] at h
  cases fuel with
  | zero => simp [DataW.trod] at h
  | succ fuel =>
    simp only [DataW.trod, Tryd.underlying114, kjD, cellsTab] at h
    split at h
    · rename_i hl
      obtain ⟨xs, hm, hx⟩ := Option.map_eq_some_iff.1 h
      have hxs : xs.map (·.1) = ki0 := by
        have := congrArg Prod.fst hx
        simpa using this
      obtain ⟨b, hb, hf⟩ := Lib.mapM_at hm k k (by simp [hk])
      have h2 : (xs.map (·.1))[k]? = some b.1 := by simp [hb]
      rw [hxs] at h2
      simp only [ki0, List.getElem?_map, List.getElem?_range hk, Option.map_some, Option.some.injEq] at h2
      obtain ⟨ys, m, _, hbv, hlen, hyl, hfi⟩ := DataW.trod_struct Tryd.underlying113 hf
      have hy2 : ys.length = 2 := hyl
      rw [hbv] at h2
      simp only [DataW.agg.injEq] at h2
      generalize hr : (cs.drop (k * 4)).take 4 = r at hlen hfi
      rw [kjD] at hlen
      match ys, hy2, r, hlen with
      | [y0, y1], _, [v0, v1, v2, v3], _ =>
        have g0 : DataW.trod enc Tryd.prog w base sp held m 111 [v0, v1, v2] = some y0 := by have := hfi 0 _ rfl; simpa [kgA, kgz] using this
        have g1 : DataW.trod enc Tryd.prog w base sp held m 3 [v3] = some y1 := by have := hfi 1 _ rfl; simpa [kgA, kgz] using this
        simp only [List.map_cons, List.map_nil, List.cons.injEq, and_true] at h2
        obtain ⟨d0, pl0⟩ := y0
        obtain ⟨rfl, h22⟩ := h2
        obtain ⟨e0, e1, e2⟩ := arr_cells g0
        obtain ⟨n, e3, q3, _⟩ := DataW.trod_int Tryd.underlying3 g1
        simp only [List.cons.injEq, and_true] at e3
        subst e3
        subst q3
        simp only [DataW.lit.injEq, Lit.int.injEq, true_and] at h22
        have c : ∀ j, j < 4 -> cs[k * 4 + j]? = [v0, v1, v2, Value.int .i64 n][j]? := fun j hj => by
          have := congrArg (·[j]?) hr
          simp only [List.getElem?_take, List.getElem?_drop] at this
          rw [if_pos hj] at this
          exact this
        refine ⟨?_, ?_, ?_, ?_⟩
        · rw [show k * 4 = k * 4 + 0 from rfl, c 0 (by omega), e0]; rfl
        · rw [c 1 (by omega), e1]; rfl
        · rw [c 2 (by omega), e2]; rfl
        · rw [c 3 (by omega), h22]; rfl
    · cases h
theorem sh_of {W : World} (h : laidMetH Tryd.prog laid1 W) : ShAt W := by
  rw [MakeChecks.laidMetH_plain _ _ _ (by kernel_rfl)] at h
  obtain ⟨ps, ⟨g0, t0, cs0, f0, p0, q0, hg0, ht0, hv0, hd0, _, _⟩, _, _⟩ := h
  obtain rfl := Option.some.inj (gShp.symm.trans hg0)
  have tS : (Tryd.prog.globals[0]?).map (·.type) = some 114 := by kernel_rfl
  obtain rfl := Option.some.inj (tS.symm.trans ht0)
  have hc : ∀ i, W.cell? ⟨0, i, none⟩ = cs0.toList[i]? := fun i => by
    have := World.var?_cell hg0 hv0 i
    rw [this]; simp
  have key := fun k hk => shp_cells hd0 k hk
  refine ⟨?_, fun k hk => ⟨(hc _).trans (key k hk).1, (hc _).trans (key k hk).2.1, (hc _).trans (key k hk).2.2.1, (hc _).trans (key k hk).2.2.2⟩⟩
  have h0 := (hc 0).trans (key 0 (by omega)).1
  rcases Nat.lt_or_ge 0 W.heap.size with h | h
  · exact h
  · simp [World.cell?, Array.getElem?_eq_none h] at h0
section
variable {H : Type} {enc : TypeId × Value -> H} {w : World} {base : Nat} {spare : Nat -> Bool} {held : Bool}
theorem open_prms {r : Reach} {b0 : Nat} {v : Value} {d : DataW H} {p : List MemPlace} (hv : Value.okWide Tryd.prog w r b0 24 v) (h : DataW.Trod enc Tryd.prog w base spare held 24 v d p) : ∃ l, Ow.RowN 2 Ow.PrmN w l v := by
  obtain ⟨a0, len, cap, rfl⟩ := okWide_slice Tryd.underlying24 hv
  obtain ⟨fuel, hf⟩ := h
  obtain ⟨u, l, hcs, h1⟩ := Op.trod_row (R := Op.PrmN) Tryd.underlying24 Op.cells35 (by omega) Op.prm_cells hf
  simp [Value.cells] at hcs
  subst hcs
  exact ⟨l, Ow.row_of h1 (fun _ _ h => h)⟩
end
end Go.Proofs.YtlhcajhgbkgjbaaDoor.Ty

/- Rows of streams put one behind the other; what a call of Of answers in a law. Conditions: the rows lie in memory. -/
namespace Go.Proofs.YtlhcajhgbkgjbaaDoor.Ty
open Go.ChangeShapes Go.WideShapes Go.ChangeAt Go.RowKit
open Tr
open Pg (Prm Unt)
open Go.Proofs.YtlhcajhgbkgjbaaDoor.Ow (PrmN UntN RowN kaQ rown_form)
theorem kfi {w : World} {ops : Array Oper} {rest : List Oper} {o : Oper} {a : Act} {Q : Exit -> Act -> World -> Prop} (hgd : o.guard = none) (s x : Operand)
    (ho : o.op = .call { callee := .builtin .append, args := #[s, x], argTypes := #[24, 24] })
    (base : Nat) (v : Value) (l0 l : List Prm) (A : Option Addr) (c : Nat) (hs : a.eval s = v) (hown : w.ownsRow base 35 2 v l0.length (kb1 l0)) (hx : a.eval x = .slice A l.length c) (hrow : RowN 2 PrmN w l (.slice A l.length c)) (hn : l0.length + l.length <= 100000) (hb : base <= w.heap.size)
    (h : ∀ v' w', w'.ownsRow base 35 2 v' (l0 ++ l).length (kb1 (l0 ++ l)) -> Below base w w' -> wpList Tryd.prog ops Q rest (a.put o.dst v') w') : wpList Tryd.prog ops Q (o :: rest) a w := by
  obtain ⟨i0, hi, hz0, hz1, hz2⟩ := info_parts kiq
  cases A with
  | none =>
    have hl0 : l = [] := by
      cases hl : l with
      | nil => rfl
      | cons p r =>
        obtain ⟨g, o, c', x, hv, -⟩ := kaQ hrow (i := 0) (a := p) (by rw [hl]; rfl)
        simp at hv
    subst hl0
    exact kfj hgd s x 24 ho base 35 i0 2 Tryd.underlying24 hi v l0.length _ hs hown c hx (h v w (by rw [List.append_nil]; exact hown) (Below.refl _ _))
  | some ad =>
    refine wpList_append_own w hgd s x 24 ho base 35 i0 _ 2 24 Tryd.underlying24 hi hz0 hz1 hz2 rfl (by decide) v l0.length (kb1 l0) hs hown ad l.length c (kb1 l) hx (kg9 l) (kjc hrow) (kja l) (by unfold maxLen; omega) (by omega) hb ?_
    intro v' w' ho' hg _
    exact h v' w' (by rw [List.length_append, kjb]; exact ho') ((Below.refl _ _).grown hg hb (fun j hj => (hown.lt j hj).1))
theorem rown_zero {α : Type} (K : Nat) (R : World -> α -> List Value -> Prop) (w : World) : RowN K R w [] (.slice none 0 0) := ⟨none, 0, rfl, Nat.le_refl _, by unfold maxLen; omega, fun i a h => by simp at h⟩
theorem Of_no (v pv : Value) (e : List Nd) (l : List Prm) (w : World) (hT : ShAt w) (hv : Nodes w v e) (hs : Short e) (hp : RowN 2 PrmN w l pv) : Calls Tryd.prog 6 #[v, pv, .slice none 0 0] w (kbT w (tyM (kcG l []) e)) :=
  Of_any v pv _ e l [] w hT hv hs hp (rown_zero _ _ _)
end Go.Proofs.YtlhcajhgbkgjbaaDoor.Ty

