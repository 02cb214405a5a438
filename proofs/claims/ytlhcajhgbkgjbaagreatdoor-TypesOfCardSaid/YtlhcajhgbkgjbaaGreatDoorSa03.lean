/- Layer types: the function made. Conditions: the slice is read as a list of at most three numbers. -/
import Derived.Test.YtlhcajhgbkgjbaaGreatDoorSa02
import Derived.BigQuiet
import Derived.Deep.RegionHeld3
set_option linter.unusedVariables false
set_option linter.unusedSimpArgs false
namespace Go.Proofs.YtlhcajhgbkgjbaaGreatDoor.Ty
open Go.ChangeShapes Go.WideShapes Go.ChangeAt Go.RowKit
open Tr
set_option maxHeartbeats 1600000 in
theorem kfG (p : Int) (a : Addr) (v : Value) (l : List Int) (w : World) (h : w.cell? a = some v) (hv : Ints w v l) (hl : l.length <= 1000) (h3 : p = 3 -> l ≠ []) :
 Calls Tryz.prog 96 #[.int .i64 p, .pointer (some a)] w (fun e w' => e = .returned (.int .i64 (kbB l p)) /\ Below w.heap.size w w') := by
 obtain ⟨A, c, rfl, h1, h2, hA⟩ := hv
 unfold maxLen at h2
 by_cases hp : p = 3
 · subst hp
   have hne := h3 rfl
   have hpos : 0 < l.length := List.length_pos_iff.2 hne
   obtain ⟨y, hy⟩ : ∃ y, l[l.length - 1]? = some y := ⟨_, List.getElem?_eq_getElem (by omega)⟩
   obtain ⟨g, o, rfl, hg, a0⟩ := hA _ y hy
   have e2 : (l.length : Int) - 1 = ((l.length - 1 : Nat) : Int) := by omega
   have HE : Hid (kbB l 3 = y) := Lib.hid (by unfold kbB; rw [if_pos rfl]; simp [List.getD, hy])
   have hlt : l.length - 1 < l.length := by omega
   clear hA hy hne h3
   go_enter Tryz.func96, Tryz.ntmps96
   go_wp2
   rw [HE.out]
   go_ret
   exact ⟨rfl, Below.refl _ _⟩
 · have hpb : (p == 3) = false := by simpa using hp
   have HE : Hid (kbB l p = p) := Lib.hid (by unfold kbB; rw [if_neg hp])
   clear hA h3
   rw [HE.out]
   go_enter Tryz.func96, Tryz.ntmps96
   go_wp2
   go_ret
   exact ⟨rfl, Below.refl _ _⟩
theorem kqn {t : Int × Int × Int × Int} {l : List Int} {k : Nat} (h : fitM t l k = false) : ∀ m, k <= m -> fitM t l m = false := by
 intro m hm
 induction m with
 | zero => have : k = 0 := by omega
           subst this; exact h
 | succ m ih =>
  by_cases hk : k = m + 1
  · subst hk; exact h
  · unfold fitM; rw [ih (by omega)]; rfl
set_option maxRecDepth 100000 in
set_option maxHeartbeats 4000000 in
theorem knI (t : Int × Int × Int × Int) (ov : Value) (l : List Int) (w : World) (hv : Ints w ov l) (hl : l.length <= 3) (h3 : t.2.2.2 = 3 -> l ≠ []) :
 Calls Tryz.prog 75 #[.agg #[.int .i64 t.1, .int .i64 t.2.1, .int .i64 t.2.2.1, .int .i64 t.2.2.2], ov] w (kbt w (kfC t l)) := by
 obtain ⟨t0, t1, t2, is⟩ := t
 simp only at h3 ⊢
 have hmf : ∀ (fn : Fn) (first cap : Array Value) (w : World), (Instr.makeFunc fn first cap).run Tryz.prog w = .ok (.func fn first cap) w := fun _ _ _ _ => rfl
 obtain ⟨A, c, rfl, h1, h2, hA⟩ := hv
 have HV0 : Hid (Ints w (.slice A l.length c) l) := Lib.hid ⟨A, c, rfl, h1, h2, hA⟩
 unfold maxLen at h2
 have N := kaV w (.cells #[.int .i64 t0, .int .i64 t1, .int .i64 t2, .int .i64 is] 126) (.cells #[.slice A l.length c] 69)
 obtain ⟨w1, hw1⟩ : ∃ W, (w.alloc (.cells #[.int .i64 t0, .int .i64 t1, .int .i64 t2, .int .i64 is] 126)).alloc (.cells #[.slice A l.length c] 69) = W := ⟨_, rfl⟩
 rw [hw1] at N
 have HB1 := Lib.hid N.1
 have HT := Lib.hid N.2.1
 have HO := Lib.hid N.2.2
 have lt1 := lt_of_block N.2.1
 have lt2 := lt_of_block N.2.2
 have HA := Lib.hid hA
 obtain ⟨R, hR⟩ : ∃ R, kfC (t0, t1, t2, is) l = R := ⟨_, rfl⟩
 have HR := Lib.hid hR
 rw [hR]
 have HW1 := Lib.hid hw1
 clear hA hR N hw1
 go_enter Tryz.func75, Tryz.ntmps75
 go_wp2_with fail
 rw [HW1.out]
 go_wp2
 go_loopw [12] (fun i wr => ∃ k : Nat, k <= l.length /\ i = .int .i64 k /\ fitM (t0, t1, t2, is) l k = true /\ Below w1.heap.size w1 wr) (fun i _ => l.length - (intOf i).toNat)
 case atStart => exact ⟨0, Nat.zero_le _, rfl, rfl, Below.refl _ _⟩
 case round =>
  obtain ⟨k, hk, rfl, hfit, hb⟩ := hrel
  have HB := Lib.hid hb
  have HF := Lib.hid hfit
  have lB := hb.size
  have hTr := (hb.block _ lt1).trans HT.out
  have hOr := (hb.block _ lt2).trans HO.out
  have p3 : wr.cell? ⟨w.heap.size + 1, 0, none⟩ = some (.slice A l.length c) := (ka3 hOr 0).trans rfl
  have HP3 := Lib.hid p3
  have HVr := Lib.hid (HV0.out.below (HB1.out.trans (hb.mono (by omega))) (Nat.le_refl _))
  by_cases hlt : k < l.length
  · obtain ⟨x, hx⟩ : ∃ x, l[k]? = some x := ⟨_, List.getElem?_eq_getElem hlt⟩
    obtain ⟨g, o, rfl, hg, a0⟩ := HA.out k x hx
    have b0 := ((HB1.out.trans (hb.mono (by omega))).cell (p := ⟨g, o + k, none⟩) hg).trans a0
    have hk3 : k < 3 := by omega
    have q0 : wr.cell? ⟨w.heap.size, k, none⟩ = some (.int .i64 (kbu (t0, t1, t2, is) k)) := by
     match k, hk3 with
     | 0, _ => exact (ka3 hTr 0).trans rfl
     | 1, _ => exact (ka3 hTr 1).trans rfl
     | 2, _ => exact (ka3 hTr 2).trans rfl
    have HC := Lib.hid (kfG (kbu (t0, t1, t2, is) k) ⟨w.heap.size + 1, 0, none⟩ _ l wr HP3.out HVr.out (by omega) (fun _ h => by rw [h] at hlt; simp at hlt))
    have HNX : Hid (fitM (t0, t1, t2, is) l (k + 1) = (x == kbB l (kbu (t0, t1, t2, is) k))) := Lib.hid (by
     show (fitM _ l k && _) = _
     rw [HF.out, Bool.true_and]
     simp [List.getD, hx])
    obtain ⟨tk, htk⟩ : ∃ tk, kbu (t0, t1, t2, is) k = tk := ⟨_, rfl⟩
    rw [htk] at q0 HC HNX
    obtain ⟨ty, hty⟩ : ∃ ty, kbB l tk = ty := ⟨_, rfl⟩
    rw [hty] at HC HNX
    clear hx a0 hb hTr hOr htk hty hfit p3
    go_wp2_with fail
    refine HC.out.mono ?_
    rintro r w3 ⟨rfl, hb3⟩
    have HB3 := Lib.hid (HB.out.trans (hb3.mono lB))
    clear hb3
    by_cases hxt : x = ty
    · have hb : (x != ty) = false := by simp [hxt]
      have HNY : Hid (fitM (t0, t1, t2, is) l (k + 1) = true) := Lib.hid (by rw [HNX.out]; simp [hxt])
      clear hxt
      go_wp2
      refine ⟨⟨k + 1, by omega, by go_num, HNY.out, HB3.out⟩, by simp [intOf]; omega⟩
    · have hb : (x != ty) = true := by simpa using hxt
      have HNY : Hid (R = (0, 10)) := Lib.hid (by
       rw [<- HR.out]
       unfold kfC
       rw [kqn (k := k + 1) (by rw [HNX.out]; simpa using hxt) l.length (by omega)]
       rfl)
      clear hxt
      go_wp2
      go_ret2
      exact kaQ HNY.out (HB1.out.trans (HB3.out.mono (by omega)))
  · have hkl : k = l.length := by omega
    subst hkl
    have q0 : wr.cell? ⟨w.heap.size, 3, none⟩ = some (.int .i64 is) := (ka3 hTr 3).trans rfl
    have HC := Lib.hid (kfG is ⟨w.heap.size + 1, 0, none⟩ _ l wr HP3.out HVr.out (by omega) h3)
    have HNY : Hid (R = (kbB l is, 0)) := Lib.hid (by
     rw [<- HR.out]
     unfold kfC
     rw [HF.out]; rfl)
    obtain ⟨ty, hty⟩ : ∃ ty, kbB l is = ty := ⟨_, rfl⟩
    rw [hty] at HC HNY
    clear hb hTr hOr hty hfit p3
    go_wp2_with fail
    refine HC.out.mono ?_
    rintro r w3 ⟨rfl, hb3⟩
    have HB3 := Lib.hid (HB.out.trans (hb3.mono lB))
    clear hb3
    go_wp2
    go_ret2
    exact kaQ HNY.out (HB1.out.trans (HB3.out.mono (by omega)))
end Go.Proofs.YtlhcajhgbkgjbaaGreatDoor.Ty

/- Layer types: the type of a call. Conditions: the maps lie in memory. -/
namespace Go.Proofs.YtlhcajhgbkgjbaaGreatDoor.Ty
open Go.ChangeShapes Go.WideShapes Go.ChangeAt Go.RowKit Go.Maps
open Tr
open Pg (Prm Unt)
open Go.Proofs.YtlhcajhgbkgjbaaGreatDoor.Ow (PrmN UntN RowN kav rown_form)
abbrev kga : Value := .agg #[.bool false, .string ⟨#[]⟩, .slice none 0 0, .string ⟨#[]⟩, .int .i64 0, .slice none 0 0, .slice none 0 0, .slice none 0 0]
theorem kj5 (w : World) : (zeroValue 54).run Tryz.prog w = .ok kga w := by kernel_rfl
theorem kd6.look {w : World} {v : Value} {n : Nat} {g : Bytes -> Option (List Int × Int)} (h : kd6 w v n g) (s : Bytes) (hs : s.length <= maxLen) :
 ∃ V B, (∀ W, Below w.heap.size w W -> (Instr.lookup 63 v (.string (str s)) true).run Tryz.prog W = .ok (.tuple #[V, .bool B]) W) /\
  ((g s = none /\ B = false /\ V = kga) ∨ ∃ u x, UntN w u x /\ V = .agg x.toArray /\ B = true /\ g s = some (u.ins.map (·.ty), u.out.ty)) := by
 rcases h with ⟨rfl, h⟩ | ⟨w0, b, rfl, hw0, -, G, hm, hG⟩
 · exact ⟨kga, false, fun W _ => Maps.look_nil true lawS Tryz.underlying63 (kj5 W) (kgu s hs), .inl ⟨h s, rfl, rfl⟩⟩
 · have hl : ∀ W, Below w.heap.size w W -> _ := fun W hb => (hm.below hb hm.lt).look Tryz.underlying63 (kj5 W) s hs
   cases hs' : G s with
   | none =>
    refine ⟨kga, false, fun W hb => ?_, .inl ⟨(hG s).1 hs', rfl, rfl⟩⟩
    have := hl W hb
    simp only [hs', Option.map_none, Option.getD_none, Option.isSome_none] at this
    exact this
   | some p =>
    refine ⟨.agg p.2.toArray, true, fun W hb => ?_, .inr ⟨p.1, p.2, Ow.UntN.below hw0 _ _ ((hG s).2 p hs').1, rfl, rfl, ((hG s).2 p hs').2⟩⟩
    have := hl W hb
    simp only [hs', Option.map_some, Option.getD_some, Option.isSome_some] at this
    exact this
def keh (s : Option (List Int × Int)) (a : List Int) : Int × Int := ansY (kfs s a)
set_option maxRecDepth 100000 in
set_option maxHeartbeats 4000000 in
theorem kof (sv nv ov : Value) (n : Nat) (g : Bytes -> Option (List Int × Int)) (s : Bytes) (L : List Int) (w : World) (hm : kd6 w nv n g) (hs : s.length <= maxLen) (hv : Ints w ov L) :
 Calls Tryz.prog 72 #[.agg #[sv, nv], .string (str s), ov] w (kbt w (keh (g s) L)) := by
 obtain ⟨V, B, hlk, hd⟩ := hm.look s hs
 have hl : ∀ o, (Instr.lookup 63 nv (.string (str s)) true).run Tryz.prog (w.alloc o) = .ok (.tuple #[V, .bool B]) (w.alloc o) := fun o => hlk _ (below_new w o)
 obtain ⟨R, hR⟩ : ∃ R, keh (g s) L = R := ⟨_, rfl⟩
 rw [hR]
 obtain ⟨A, c, rfl, h1, h2, hA⟩ := hv
 unfold maxLen at h2
 have HA := Lib.hid hA
 rcases hd with ⟨hg, rfl, rfl⟩ | ⟨u, x, hu, rfl, rfl, hg⟩
 · have HE : Hid (R = (0, 14)) := Lib.hid (by rw [<- hR, hg]; rfl)
   clear hR hg hlk hm hA
   go_enter Tryz.func72, Tryz.ntmps72
   go_wp2
   go_ret2
   exact kaQ HE.out (kaV w _ _).1
 · obtain ⟨iv, vv, qv, lv, rfl, u1, u2, u3, u4, -, -⟩ := hu
   obtain ⟨Ai, ci, hie, i1, i2, -⟩ := rown_form u1
   obtain ⟨Av, cv, hve, -, -, -⟩ := rown_form u2
   obtain ⟨Aq, cq, hqe, -, -, -⟩ := rown_form u3
   obtain ⟨Al, cl, hle, -, -, -⟩ := rown_form u4
   have HU1 := Lib.hid u1
   unfold maxLen at i2
   subst hie hve hqe hle
   have HR := Lib.hid hR
   have HG := Lib.hid hg
   clear hR hg hlk hm hA u1 u2 u3 u4
   by_cases hn : u.ins.length = L.length
   rotate_left
   · have HE : Hid (R = (0, 14)) := Lib.hid (by
      rw [<- HR.out, HG.out]
      unfold keh kfs
      simp only [List.length_map]
      rw [if_pos hn]; rfl)
     have hb : ((u.ins.length : Int) != (L.length : Int)) = true := by simpa using (fun h => hn (by omega))
     have hb' : (u.ins.length != L.length) = true := by simpa using hn
     clear hn
     go_enter Tryz.func72, Tryz.ntmps72
     go_wp2
     go_ret2
     exact kaQ HE.out (kaV w _ _).1
   have hb : ((u.ins.length : Int) != (L.length : Int)) = false := by simp; omega
   have hb' : (u.ins.length != L.length) = false := by simp [hn]
   obtain ⟨w1, hw1⟩ : ∃ W, (w.alloc (.cells #[sv, nv] 65)).alloc (.cells #[.bool u.contract, .string (str u.name), .slice Ai u.ins.length ci, .string (str u.out.name), .int .i64 u.out.ty, .slice Av u.vars.length cv, .slice Aq u.eqs.length cq, .slice Al u.items.length cl] 54) = W := ⟨_, rfl⟩
   have N := kaV w (.cells #[sv, nv] 65) (.cells #[.bool u.contract, .string (str u.name), .slice Ai u.ins.length ci, .string (str u.out.name), .int .i64 u.out.ty, .slice Av u.vars.length cv, .slice Aq u.eqs.length cq, .slice Al u.items.length cl] 54)
   rw [hw1] at N
   have HB1 := Lib.hid N.1
   have HT := Lib.hid N.2.2
   have lt2 := lt_of_block N.2.2
   have p2 : w1.cell? ⟨w.heap.size + 1, 2, none⟩ = some (.slice Ai u.ins.length ci) := (ka3 N.2.2 2).trans rfl
   have HW1 := Lib.hid hw1
   have HN := Lib.hid hn
   clear N hw1 hn
   go_enter Tryz.func72, Tryz.ntmps72
   go_wp2_with fail
   rw [HW1.out]
   go_wp2
   go_loopw [32] (fun i wr => ∃ k : Nat, k <= u.ins.length /\ i = .int .i64 k /\ (∀ j, j < k -> (u.ins.map (·.ty))[j]? = L[j]?) /\ Below w1.heap.size w1 wr) (fun i _ => u.ins.length - (intOf i).toNat)
   case atStart => exact ⟨0, Nat.zero_le _, rfl, fun j hj => by omega, Below.refl _ _⟩
   case round =>
    obtain ⟨k, hk, rfl, hsame, hb3⟩ := hrel
    have HS := Lib.hid hsame
    have HB := Lib.hid hb3
    have lB := hb3.size
    have HBB : Hid (Below w.heap.size w wr) := Lib.hid (HB1.out.trans (hb3.mono HB1.out.size))
    by_cases hlt : k < u.ins.length
    · obtain ⟨p, hp⟩ : ∃ p, u.ins[k]? = some p := ⟨_, List.getElem?_eq_getElem hlt⟩
      obtain ⟨gg, o, c', xs, hsl, hgl, hpx, hxl, hcell⟩ := kav HU1.out hp
      simp only [Value.slice.injEq, true_and] at hsl
      obtain ⟨rfl, rfl⟩ := hsl
      obtain ⟨rfl, hpn⟩ := hpx
      have q0 : wr.cell? ⟨gg, o + k * 2 + 0, none⟩ = some (.string (str p.name)) := (HBB.out.cell (p := ⟨gg, o + k * 2 + 0, none⟩) hgl).trans (hcell 0 (by omega))
      have q1 : wr.cell? ⟨gg, o + k * 2 + 1, none⟩ = some (.int .i64 p.ty) := (HBB.out.cell (p := ⟨gg, o + k * 2 + 1, none⟩) hgl).trans (hcell 1 (by omega))
      rw [Nat.add_zero] at q0
      have hkl : k < L.length := by have := HN.out; omega
      obtain ⟨y, hy⟩ : ∃ y, L[k]? = some y := ⟨_, List.getElem?_eq_getElem hkl⟩
      obtain ⟨g2, o2, rfl, hg2, a1⟩ := HA.out k y hy
      have b1 := (HBB.out.cell (p := ⟨g2, o2 + k, none⟩) hg2).trans a1
      have hg2' : g2 < wr.heap.size := by have := HBB.out.size; omega
      have hgg' : gg < wr.heap.size := by have := HBB.out.size; omega
      have HP : Hid ((u.ins.map (·.ty))[k]? = some p.ty) := Lib.hid (by rw [List.getElem?_map, hp]; rfl)
      have HY := Lib.hid hy
      obtain ⟨ty, hty⟩ : ∃ ty, p.ty = ty := ⟨_, rfl⟩
      rw [hty] at q1 HP
      clear hp hcell hy a1 hb3 hsame hpn hxl hty
      by_cases hxy : ty = y
      · have hbb : (ty != y) = false := by simp [hxy]
        have HNX : Hid (∀ j, j < k + 1 -> (u.ins.map (·.ty))[j]? = L[j]?) := Lib.hid (fun j hj => by
         by_cases hjk : j = k
         · subst hjk; rw [HP.out, HY.out, hxy]
         · exact HS.out j (by omega))
        clear hxy
        go_wp2
        go_quiet (fail)
        go_wp2
        refine ⟨⟨k + 1, by omega, by go_num, HNX.out, ?_⟩, by simp [intOf]; omega⟩
        exact Tr.below_drewN (HB.out.alloc lB _) _
      · have hbb : (ty != y) = true := by simpa using hxy
        have HNX : Hid (R = (0, 10)) := Lib.hid (by
         rw [<- HR.out, HG.out]
         unfold keh kfs
         simp only [List.length_map]
         rw [if_neg (by simp [HN.out]), if_pos (fun h => hxy (by
          have h1 := HP.out
          rw [h, HY.out] at h1
          injection h1 with h1; exact h1.symm))]
         rfl)
        clear hxy
        go_wp2
        go_quiet (fail)
        go_wp2
        go_ret2
        exact kaQ HNX.out (Tr.below_drewN (HB1.out.trans ((HB.out.alloc lB _).mono HB1.out.size)) _)
    · have hkl : k = u.ins.length := by omega
      subst hkl
      have hTr := (hb3.block _ lt2).trans HT.out
      have q4 : wr.cell? ⟨w.heap.size + 1, 4, none⟩ = some (.int .i64 u.out.ty) := (ka3 hTr 4).trans rfl
      have HNX : Hid (R = (u.out.ty, 0)) := Lib.hid (by
       rw [<- HR.out, HG.out]
       unfold keh kfs
       simp only [List.length_map]
       rw [if_neg (by simp [HN.out]), if_neg (fun h => h (by
        apply List.ext_getElem?
        intro j
        by_cases hj : j < u.ins.length
        · exact HS.out j hj
        · rw [List.getElem?_eq_none (by simp; omega), List.getElem?_eq_none (by rw [<- HN.out]; omega)]))]
       rfl)
      clear hb3 hsame hTr
      go_wp2
      go_ret2
      exact kaQ HNX.out HBB.out
end Go.Proofs.YtlhcajhgbkgjbaaGreatDoor.Ty

/- Layer types: a row that is turned; the arguments of a call. Conditions: the expression may be. -/
namespace Go.Proofs.YtlhcajhgbkgjbaaGreatDoor.Ty
open Go.ChangeShapes Go.WideShapes Go.ChangeAt Go.RowKit
open Tr
def kes (L : List Int) (k : Nat) : List Int := (List.range L.length).map fun i => if i < k ∨ L.length - k <= i then L.getD (L.length - 1 - i) 0 else L.getD i 0
theorem kcF (L : List Int) (k : Nat) : (kes L k).length = L.length := by unfold kes; simp
theorem kcG (L : List Int) (k i : Nat) (h : i < L.length) : (kes L k)[i]? = some (if i < k ∨ L.length - k <= i then L.getD (L.length - 1 - i) 0 else L.getD i 0) := by
 unfold kes; rw [List.getElem?_map, List.getElem?_range h]; rfl
theorem kjQ (L : List Int) : kes L 0 = L := by
 apply List.ext_getElem?
 intro i
 by_cases h : i < L.length
 · rw [kcG L 0 i h, if_neg (by omega)]; simp [List.getD, List.getElem?_eq_getElem h]
 · rw [List.getElem?_eq_none (by rw [kcF]; omega), List.getElem?_eq_none (by omega)]
theorem klf (L : List Int) (k : Nat) (h : L.length <= 2 * k + 1) : kes L k = L.reverse := by
 apply List.ext_getElem?
 intro i
 by_cases hi : i < L.length
 · rw [kcG L k i hi, List.getElem?_reverse hi]
   have h2 : L.length - 1 - i < L.length := by omega
   rw [List.getElem?_eq_getElem h2]
   by_cases hc : i < k ∨ L.length - k <= i
   · rw [if_pos hc]; simp [List.getD, List.getElem?_eq_getElem h2]
   · rw [if_neg hc]
     have : L.length - 1 - i = i := by omega
     simp [List.getD, List.getElem?_eq_getElem hi, this]
 · rw [List.getElem?_eq_none (by rw [kcF]; omega), List.getElem?_eq_none (by rw [List.length_reverse]; omega)]
theorem kjR (L : List Int) (k : Nat) (h : 2 * k + 1 < L.length) : ((kes L k).set k (L.getD (L.length - 1 - k) 0)).set (L.length - 1 - k) (L.getD k 0) = kes L (k + 1) := by
 apply List.ext_getElem?
 intro i
 by_cases hi : i < L.length
 · rw [kcG L (k + 1) i hi]
   by_cases h1 : L.length - 1 - k = i
   · subst h1
     rw [List.getElem?_set_self (by rw [List.length_set, kcF]; exact hi), if_pos (by omega)]
     congr 2; omega
   · rw [List.getElem?_set_ne h1]
     by_cases h2 : k = i
     · subst h2
       rw [List.getElem?_set_self (by rw [kcF]; exact hi), if_pos (by omega)]
     · rw [List.getElem?_set_ne h2, kcG L k i hi]
       by_cases hc : i < k ∨ L.length - k <= i
       · rw [if_pos hc, if_pos (by omega)]
       · rw [if_neg hc, if_neg (by omega)]
 · rw [List.getElem?_eq_none (by rw [List.length_set, List.length_set, kcF]; omega), List.getElem?_eq_none (by rw [kcF]; omega)]
def kpT (w : World) (base : Nat) (v : Value) (L : List Int) (e : Ending) (w' : World) : Prop :=
 e = .returned (.tuple #[]) /\ w'.ownsRow base 3 1 v L.length (intsOf L.reverse) /\ Below base w w'
theorem kkt {base g k m : Nat} {w wr : World} {x y : Value} (h : Below base w wr) (hg : base <= g) : Below base w ((wr.setCell ⟨g, k, none⟩ y).setCell ⟨g, m, none⟩ x) := (h.setCell (p := ⟨g, k, none⟩) hg _).setCell (p := ⟨g, m, none⟩) hg _
set_option maxRecDepth 100000 in
set_option maxHeartbeats 4000000 in
theorem kp0 (v : Value) (L : List Int) (base : Nat) (w : World) (hv : w.ownsRow base 3 1 v L.length (intsOf L)) (hn : L.length <= 1000000) : Calls Tryz.prog 95 #[v] w (kpT w base v L) := by
 have HV := Lib.hid hv
 rcases hv.2 with ⟨rfl, h0⟩ | ⟨g, c, cur, rfl, hbg, hh, hc1, hc2, -, -⟩
 · have hL : L = [] := List.length_eq_zero_iff.1 h0
   subst hL
   clear h0 hv
   go_enter Tryz.func95, Tryz.ntmps95
   go_wp2
   go_loopw [2, 3] (fun i j wr => i = .int .i64 0 /\ j = .int .i64 (-1) /\ wr = w) (fun i _ _ => 0)
   case atStart => exact ⟨rfl, rfl, rfl⟩
   case round =>
    obtain ⟨rfl, rfl, rfl⟩ := hrel
    go_wp2
    go_end0
    exact ⟨rfl, HV.out, Below.refl _ _⟩
 unfold maxLen at hc2
 have HV0 : Hid (w.ownsRow base 3 1 (.slice (some ⟨g, 0, none⟩) L.length c) L.length (intsOf (kes L 0))) := Lib.hid (by rw [kjQ]; exact HV.out)
 clear hv hh
 go_enter Tryz.func95, Tryz.ntmps95
 go_wp2
 go_loopw [2, 3] (fun i j wr => ∃ k : Nat, k <= L.length /\ i = .int .i64 k /\ j = .int .i64 ((L.length : Int) - 1 - k) /\ 2 * k <= L.length + 1 /\ wr.ownsRow base 3 1 (.slice (some ⟨g, 0, none⟩) L.length c) L.length (intsOf (kes L k)) /\ Below base w wr) (fun i _ _ => L.length - (intOf i).toNat)
 case atStart => exact ⟨0, Nat.zero_le _, rfl, by simp, by omega, HV0.out, Below.refl _ _⟩
 case round =>
  obtain ⟨k, hk, rfl, rfl, hk2, hown, hb⟩ := hrel
  by_cases hlt : 2 * k + 1 < L.length
  · obtain ⟨m, hm⟩ : ∃ m, L.length - 1 - k = m := ⟨_, rfl⟩
    have hmi : (L.length : Int) - 1 - (k : Int) = (m : Int) := by omega
    have hml : m < L.length := by omega
    have hkm : k < m := by omega
    rw [hmi]
    have g1 : (kes L k)[k]? = some (L.getD k 0) := by rw [kcG L k k (by omega), if_neg (by omega)]
    have g2 : (kes L k)[m]? = some (L.getD m 0) := by rw [kcG L k m (by omega), if_neg (by omega)]
    have hnx := kjR L k hlt
    rw [hm] at hnx
    obtain ⟨x, hx⟩ : ∃ x, L.getD k 0 = x := ⟨_, rfl⟩
    obtain ⟨y, hy⟩ : ∃ y, L.getD m 0 = y := ⟨_, rfl⟩
    rw [hx] at g1 hnx
    rw [hy] at g2 hnx
    have c1 := (hown.cellAt k (by omega)).trans (kaB _ k _ g1)
    have c2 := (hown.cellAt m (by omega)).trans (kaB _ m _ g2)
    have f1 := hown.frozenAt k
    have f2 := hown.frozenAt m
    have HO2 : Hid (((wr.setCell ⟨g, k, none⟩ (.int .i64 y)).setCell ⟨g, m, none⟩ (.int .i64 x)).ownsRow base 3 1 (.slice (some ⟨g, 0, none⟩) L.length c) L.length (intsOf (kes L (k + 1)))) := Lib.hid (by
     rw [<- hnx, kb3, kb3]
     exact ((hown.stored k (.int .i64 y)).1.stored m (.int .i64 x)).1)
    have hgl := (hown.lt g rfl).2
    have HBK := Lib.hid hb
    have e3 : (m : Int) - 1 = ((m - 1 : Nat) : Int) := by omega
    have e4 : ((m - 1 : Nat) : Int) = (L.length : Int) - 1 - ((k + 1 : Nat) : Int) := by omega
    have E4 := Lib.hid e4
    have hkl : k < L.length := by omega
    clear hm hmi hx hy g1 g2 hnx hown hb e4 hk2
    go_wp2
    go_region
    all_goals
     go_wp2
     refine ⟨⟨k + 1, by omega, by go_num, by first | rfl | (rw [E4.out]) | (congr 1; omega), by omega, ?hw, ?hbl⟩, by simp [intOf]; omega⟩
     case hw => exact HO2.out
     case hbl => exact (kkt HBK.out hbg).drew
  · have HV2 : Hid (wr.ownsRow base 3 1 (.slice (some ⟨g, 0, none⟩) L.length c) L.length (intsOf L.reverse)) := Lib.hid (by rw [<- klf L k (by omega)]; exact hown)
    have HBK := Lib.hid hb
    have hd : decide ((k : Int) < (L.length : Int) - 1 - (k : Int)) = false := decide_eq_false (by omega)
    clear hown hb
    go_wp2
    go_end0
    exact ⟨rfl, HV2.out, HBK.out⟩
set_option maxRecDepth 100000 in
set_option maxHeartbeats 4000000 in
theorem kgM (v : Value) (e : List Nd) (x : Nd) (i : Nat) (w : World) (hv : Nodes w v e) (he : e.length <= 5000) (hg : ∀ i x, e[i]? = some x -> Tr.Good e i x) (hi : i <= e.length) (ha : kcv e i x.a) :
 Calls Tryz.prog 74 #[v, .agg (ndC x)] w (kah w (kaI e x.a)) := by
 have HG := Lib.hid hg
 have hal := kdw hg i x.a hi ha
 obtain ⟨AL, hAL⟩ : ∃ AL, kaI e x.a = AL := ⟨_, rfl⟩
 have HAL := Lib.hid hAL
 rw [hAL] at hal ⊢
 obtain ⟨A, c, rfl, h1, h2, hA⟩ := hv
 unfold maxLen at h2
 have HA := Lib.hid hA
 obtain ⟨i0, hi', hz0, hz1, hz2⟩ := info_parts info3
 have hX : (w.alloc (.cells (ndC x) 39)).heap[w.heap.size]? = some (.cells (ndC x) 39 (0, 0)) := heap_alloc_new w _
 have p1 : (w.alloc (.cells (ndC x) 39)).cell? ⟨w.heap.size, 1, none⟩ = some (.int .i64 x.a) := (ka3 hX 1).trans rfl
 have HA0 := Lib.hid ha
 obtain ⟨op, a, b, cc, n, nm⟩ := x
 simp only at HAL HA0 p1
 clear hA hAL hg ha hX
 go_enter Tryz.func74, Tryz.ntmps74
 go_wp2
 go_loopw [5, 6] (fun ov k wr => ∃ (kk : Int) (P : List Int) (ov' : Value), ov' = ov /\ k = .int .i64 kk /\ kcv e i kk /\ kaI e kk ++ P.reverse = AL /\ wr.ownsRow w.heap.size 3 1 ov' P.length (intsOf P) /\ Below w.heap.size w wr) (fun _ k _ => (intOf k + 1).toNat)
 case atStart => exact ⟨a, [], _, rfl, rfl, HA0.out, by simp [HAL.out], World.ownsRow_nil _ _ _ _, below_new w _⟩
 case round =>
  obtain ⟨kk, P, ov', rfl, rfl, hia, hap, hown, hb⟩ := hrel
  have hPl : P.length <= i := by
   have := congrArg List.length hap
   simp at this; omega
  have HAP := Lib.hid hap
  have hz := hb.size
  rcases hia with rfl | ⟨k0, k1, k2⟩
  · have HRV : Hid (P.reverse = AL) := Lib.hid (by have := HAP.out; rw [kco] at this; simpa using this)
    have HC := Lib.hid (kp0 ov' P w.heap.size wr hown (by omega))
    have HBK := Lib.hid hb
    have hl2 : P.length = AL.length := by rw [<- HRV.out]; simp
    have HL2 := Lib.hid hl2
    rcases hown.2 with ⟨rfl, -⟩ | ⟨g3, c3, cur3, rfl, -⟩
    all_goals
     clear hap hown hb hl2
     go_wp2_with fail
     refine HC.out.mono ?_
     rintro r w3 ⟨rfl, ho3, hb3⟩
     have HB3 := Lib.hid (HBK.out.trans hb3)
     have HO3 := Lib.hid ho3
     clear ho3 hb3
     go_wp2
     go_ret
     refine ⟨_, rfl, ?_, HB3.out⟩
     rw [<- HL2.out, <- HRV.out]
     exact HO3.out
  · obtain ⟨m, rfl⟩ := Int.eq_ofNat_of_zero_le k0
    have hml : m < e.length := by omega
    have hm : e[m]? = some (e.getD m default) := kbd hml
    obtain ⟨y, hy⟩ : ∃ y, e.getD m default = y := ⟨_, rfl⟩
    have h28 : y.op = 28 := by rw [<- hy]; simpa [Tr.opAt] using k2
    rw [hy] at hm
    obtain ⟨hnb, na, nb⟩ := kc3 (HG.out m y hm) h28
    have hst := kbU HG.out hm h28
    obtain ⟨g, o, rfl, hg, a0, a1, a2, -⟩ := HA.out m y hm
    have b1 := (hb.cell (p := ⟨g, o + m * 6 + 1, none⟩) hg).trans a1
    have b2 := (hb.cell (p := ⟨g, o + m * 6 + 2, none⟩) hg).trans a2
    have HN : Hid (kaI e y.b ++ (P ++ [y.a]).reverse = AL) := Lib.hid (by
     rw [<- HAP.out, hst]; simp)
    have HIA : Hid (kcv e i y.b) := Lib.hid (by
     rcases hnb with h | ⟨q0, q1, q2⟩
     · exact .inl h
     · exact .inr ⟨q0, by omega, q2⟩)
    have HMS : Hid ((y.b + 1).toNat < ((m : Int) + 1).toNat) := Lib.hid (by rcases hnb with h | ⟨q0, q1, q2⟩ <;> omega)
    obtain ⟨ya, hya⟩ : ∃ ya, y.a = ya := ⟨_, rfl⟩
    obtain ⟨yb, hyb⟩ : ∃ yb, y.b = yb := ⟨_, rfl⟩
    rw [hya] at b1 HN
    rw [hyb] at b2 HN HIA HMS
    clear hm hy h28 hnb na nb hst a0 a1 a2 hya hyb hap k2 k0
    go_wp2_with (at_builtin; refine wpList_append_own _ rfl (.tmp 16) (.tmp 22) 69 rfl w.heap.size 3 i0 _ 1 8 Tryz.underlying69 hi' hz0 hz1 hz2 rfl (by decide) _ _ _ rfl (hown.alloc _) ⟨wr.heap.size, 0, none⟩ 1 1 [.int .i64 ya] rfl rfl ?a1 ?b1 ?c1 ?d1 ?e1 ?_)
    case a1 => exact cell_one_new _ _ _
    case b1 => intro u hu; simp at hu; subst hu; rfl
    case c1 => unfold maxLen; omega
    case d1 => omega
    case e1 => simp; omega
    intro v' w1 hown' hgrow _
    have HB2 := Lib.hid ((hb.alloc hz (.cells #[.int .i64 ya] 3)).grown hgrow (by simp; omega) (fun j hj => (hown.lt j hj).1))
    have HO2 := Lib.hid hown'
    have c2 : w1.cell? ⟨g, o + m * 6 + 2, none⟩ = some (.int .i64 yb) := (HB2.out.cell (p := ⟨g, o + m * 6 + 2, none⟩) hg).trans ((hb.cell (p := ⟨g, o + m * 6 + 2, none⟩) hg).symm.trans b2)
    clear hown hgrow hown' hb
    go_wp2
    refine ⟨⟨yb, P ++ [ya], _, rfl, rfl, HIA.out, HN.out, by rw [kcO, List.length_append]; exact HO2.out, HB2.out⟩, ?_⟩
    simp [intOf]
    have := HMS.out
    omega
end Go.Proofs.YtlhcajhgbkgjbaaGreatDoor.Ty

/- Layer types: the type of a node by those ahead. Conditions: the maps and the table lie in memory, the expression may be. -/
namespace Go.Proofs.YtlhcajhgbkgjbaaGreatDoor.Ty
open Go.ChangeShapes Go.WideShapes Go.ChangeAt Go.RowKit
open Tr
abbrev kj3 (w1 : World) (l : List Int) (e : Ending) (w' : World) : Prop := ∃ v, e = .returned v /\ Ints w' v l /\ Below w1.heap.size w1 w'
theorem kea {w : World} {v : Value} {l : List Int} (h : Ints w v l) : ∃ A c, v = .slice A l.length c /\ l.length <= c /\ c <= 2 ^ 63 - 1 := by
 obtain ⟨A, c, h1, h2, h3, _⟩ := h
 exact ⟨A, c, h1, h2, h3⟩
theorem kfY {w1 W W' : World} {l : List Int} {r : Ending} (h : Below w1.heap.size w1 W) (hh : kah W l r W') : kj3 w1 l r W' := by
 obtain ⟨v, h1, h2, h3⟩ := hh
 exact ⟨v, h1, Ints.of_own h2, h.trans (h3.mono h.size)⟩
abbrev TwoP (w1 : World) (p : Int × Int) (e : Ending) (w' : World) : Prop := e = .returned (.tuple #[.int .i64 p.1, .int .i64 p.2]) /\ Below w1.heap.size w1 w'
theorem kq3 {w1 W W' : World} {p : Int × Int} {r : Ending} (h : Below w1.heap.size w1 W) (hh : kbt W p r W') : TwoP w1 p r W' := ⟨hh.1, h.trans (hh.2.mono h.size)⟩
noncomputable def kdL (E : Env) (e : List Nd) (L : List Int) (x : Nd) : Int × Int :=
 if x.op = 3 then strR (E.str x.name) else if x.op = 27 then keh (E.nod x.name) (kaN L (kaI e x.a)) else if x.op = 28 then (0, 0) else kfC (kaq x.op.toNat) (kaN L (ka5 x))
set_option maxRecDepth 100000 in
set_option maxHeartbeats 8000000 in
theorem kqf (sv nv tv wv : Value) (n1 n2 : Nat) (E : Env) (e : List Nd) (L : List Int) (i : Nat) (x : Nd) (w : World) (hS : kbp w sv n1 E.str) (hN : kd6 w nv n2 E.nod) (hT : ShAt w) (hv : Nodes w wv e) (hl : Ints w tv L) (hx : e[i]? = some x) (he : e.length <= 5000) (hLl : L.length = e.length)
 (hg : ∀ i x, e[i]? = some x -> Tr.Good e i x) (hs : x.name.length <= maxLen) (h3 : x.op = 3) : Calls Tryz.prog 50 #[.agg #[sv, nv], .agg (ndC x), wv, tv] w (kbt w (kdL E e L x)) := by
 have hil := (List.getElem?_eq_some_iff.1 hx).1
 have hgx := hg i x hx
 obtain ⟨R, hR⟩ : ∃ R, kdL E e L x = R := ⟨_, rfl⟩
 rw [hR]
 have hop : 1 <= x.op /\ x.op <= 28 := by
  have := hgx.plain
  unfold ka8 at this
  simp at this
  exact this.1.1.1
 obtain ⟨w1, hw1⟩ : ∃ W, (w.alloc (.cells #[sv, nv] 65)).alloc (.cells (ndC x) 39) = W := ⟨_, rfl⟩
 have N := kaV w (.cells #[sv, nv] 65) (.cells (ndC x) 39)
 rw [hw1] at N
 have hb1 := N.1
 have lt1 := lt_of_block N.2.1
 have lt2 := lt_of_block N.2.2
 have HX : Hid (∀ W, Below w1.heap.size w1 W -> (W.cell? ⟨w.heap.size, 0, none⟩ = some sv /\ W.cell? ⟨w.heap.size, 1, none⟩ = some nv /\ W.cell? ⟨w.heap.size + 1, 0, none⟩ = some (.int .i64 x.op) /\ W.cell? ⟨w.heap.size + 1, 1, none⟩ = some (.int .i64 x.a) /\ W.cell? ⟨w.heap.size + 1, 2, none⟩ = some (.int .i64 x.b) /\ W.cell? ⟨w.heap.size + 1, 3, none⟩ = some (.int .i64 x.c) /\ W.cell? ⟨w.heap.size + 1, 4, none⟩ = some (.int .i64 x.n) /\ W.cell? ⟨w.heap.size + 1, 5, none⟩ = some (.string (str x.name)))) := Lib.hid (fun W h => by
  have h1 := (h.block _ lt1).trans N.2.1
  have h2 := (h.block _ lt2).trans N.2.2
  exact ⟨(ka3 h1 0).trans rfl, (ka3 h1 1).trans rfl, (ka3 h2 0).trans rfl, (ka3 h2 1).trans rfl, (ka3 h2 2).trans rfl, (ka3 h2 3).trans rfl, (ka3 h2 4).trans rfl, (ka3 h2 5).trans rfl⟩)
 have HBW : Hid (∀ W, Below w1.heap.size w1 W -> Below w.heap.size w W) := Lib.hid (fun W h => hb1.trans (h.mono hb1.size))
 have HP : Hid (∀ W kv N, Below w1.heap.size w1 W -> Ints W kv N -> (∀ k ∈ N, 0 <= k /\ k < (L.length : Int)) -> N.length <= 5000 -> Calls Tryz.prog 73 #[tv, kv] W (kj3 w1 (kaN L N))) := Lib.hid (fun W kv N h hk h2 h3 => (kdq tv kv L N W (hl.below (HBW.out W h) (Nat.le_refl _)) hk h2 (by omega)).mono (fun r W' hh => kfY h hh))
 obtain ⟨AW, cW, hwe, y1, y2, -⟩ := id hv
 obtain ⟨AT, cT, hte, y3, y4, -⟩ := id hl
 unfold maxLen at y2 y4
 have HW1 := Lib.hid hw1
 have HB1 := Lib.hid hb1
 obtain ⟨q0, q1, q2, q3, q4, q5, q6, q7⟩ := HX.out w1 (Below.refl _ _)
 have HC := Lib.hid (kfJ sv nv n1 E.str x.name w1 (hS.below hb1) hs)
 have HE : Hid (R = strR (E.str x.name)) := Lib.hid (by rw [<- hR]; unfold kdL; rw [if_pos h3])
 obtain ⟨⟨p, q⟩, hpq⟩ : ∃ y, strR (E.str x.name) = y := ⟨_, rfl⟩
 rw [hpq] at HE HC
 rw [HE.out]
 subst hwe hte
 obtain ⟨op, a, b, cc, n, nm⟩ := x
 simp only at h3 q2 q3 q4 q5 q6 q7
 subst h3
 clear hLl hR hpq hgx hg hx hS hN hT hv hl N hw1 hb1 HP
 go_enter Tryz.func50, Tryz.ntmps50
 go_wp2_with fail
 rw [HW1.out]
 go_wp2_with fail
 refine HC.out.mono ?_
 rintro r w3 ⟨rfl, hb3⟩
 have HB3 := Lib.hid (HBW.out w3 hb3)
 clear hb3
 go_wp2
 go_ret2
 exact ⟨rfl, HB3.out⟩
set_option maxRecDepth 100000 in
set_option maxHeartbeats 8000000 in
theorem kp9 (sv nv tv wv : Value) (n1 n2 : Nat) (E : Env) (e : List Nd) (L : List Int) (i : Nat) (x : Nd) (w : World) (hS : kbp w sv n1 E.str) (hN : kd6 w nv n2 E.nod) (hT : ShAt w) (hv : Nodes w wv e) (hl : Ints w tv L) (hx : e[i]? = some x) (he : e.length <= 5000) (hLl : L.length = e.length)
 (hg : ∀ i x, e[i]? = some x -> Tr.Good e i x) (hs : x.name.length <= maxLen) (h3 : x.op ≠ 3) (h27 : x.op ≠ 27) (h28 : x.op = 28) : Calls Tryz.prog 50 #[.agg #[sv, nv], .agg (ndC x), wv, tv] w (kbt w (kdL E e L x)) := by
 have hil := (List.getElem?_eq_some_iff.1 hx).1
 have hgx := hg i x hx
 obtain ⟨R, hR⟩ : ∃ R, kdL E e L x = R := ⟨_, rfl⟩
 rw [hR]
 have hop : 1 <= x.op /\ x.op <= 28 := by
  have := hgx.plain
  unfold ka8 at this
  simp at this
  exact this.1.1.1
 obtain ⟨w1, hw1⟩ : ∃ W, (w.alloc (.cells #[sv, nv] 65)).alloc (.cells (ndC x) 39) = W := ⟨_, rfl⟩
 have N := kaV w (.cells #[sv, nv] 65) (.cells (ndC x) 39)
 rw [hw1] at N
 have hb1 := N.1
 have lt1 := lt_of_block N.2.1
 have lt2 := lt_of_block N.2.2
 have HX : Hid (∀ W, Below w1.heap.size w1 W -> (W.cell? ⟨w.heap.size, 0, none⟩ = some sv /\ W.cell? ⟨w.heap.size, 1, none⟩ = some nv /\ W.cell? ⟨w.heap.size + 1, 0, none⟩ = some (.int .i64 x.op) /\ W.cell? ⟨w.heap.size + 1, 1, none⟩ = some (.int .i64 x.a) /\ W.cell? ⟨w.heap.size + 1, 2, none⟩ = some (.int .i64 x.b) /\ W.cell? ⟨w.heap.size + 1, 3, none⟩ = some (.int .i64 x.c) /\ W.cell? ⟨w.heap.size + 1, 4, none⟩ = some (.int .i64 x.n) /\ W.cell? ⟨w.heap.size + 1, 5, none⟩ = some (.string (str x.name)))) := Lib.hid (fun W h => by
  have h1 := (h.block _ lt1).trans N.2.1
  have h2 := (h.block _ lt2).trans N.2.2
  exact ⟨(ka3 h1 0).trans rfl, (ka3 h1 1).trans rfl, (ka3 h2 0).trans rfl, (ka3 h2 1).trans rfl, (ka3 h2 2).trans rfl, (ka3 h2 3).trans rfl, (ka3 h2 4).trans rfl, (ka3 h2 5).trans rfl⟩)
 have HBW : Hid (∀ W, Below w1.heap.size w1 W -> Below w.heap.size w W) := Lib.hid (fun W h => hb1.trans (h.mono hb1.size))
 have HP : Hid (∀ W kv N, Below w1.heap.size w1 W -> Ints W kv N -> (∀ k ∈ N, 0 <= k /\ k < (L.length : Int)) -> N.length <= 5000 -> Calls Tryz.prog 73 #[tv, kv] W (kj3 w1 (kaN L N))) := Lib.hid (fun W kv N h hk h2 h3 => (kdq tv kv L N W (hl.below (HBW.out W h) (Nat.le_refl _)) hk h2 (by omega)).mono (fun r W' hh => kfY h hh))
 obtain ⟨AW, cW, hwe, y1, y2, -⟩ := id hv
 obtain ⟨AT, cT, hte, y3, y4, -⟩ := id hl
 unfold maxLen at y2 y4
 have HW1 := Lib.hid hw1
 have HB1 := Lib.hid hb1
 obtain ⟨q0, q1, q2, q3, q4, q5, q6, q7⟩ := HX.out w1 (Below.refl _ _)
 have b3 : (x.op == 3) = false := by simpa using h3
 have b27 : (x.op == 27) = false := by simpa using h27
 have HE : Hid (R = (0, 0)) := Lib.hid (by rw [<- hR]; unfold kdL; rw [if_neg h3, if_neg h27, if_pos h28])
 rw [HE.out]
 subst hwe hte
 obtain ⟨op, a, b, cc, n, nm⟩ := x
 simp only at h28 q2 q3 q4 q5 q6 q7
 subst h28
 clear hLl hR hgx hg hx hS hN hT hv hl N hw1 hb1 HP HX h3 h27
 go_enter Tryz.func50, Tryz.ntmps50
 go_wp2_with fail
 rw [HW1.out]
 go_wp2
 go_ret2
 exact ⟨rfl, HB1.out⟩
end Go.Proofs.YtlhcajhgbkgjbaaGreatDoor.Ty

/- Layer types: the type of a node by those ahead. Conditions: the maps and the table lie in memory, the expression may be. -/
namespace Go.Proofs.YtlhcajhgbkgjbaaGreatDoor.Ty
open Go.ChangeShapes Go.WideShapes Go.ChangeAt Go.RowKit
open Tr
set_option maxRecDepth 100000 in
set_option maxHeartbeats 8000000 in
theorem kpa (sv nv tv wv : Value) (n1 n2 : Nat) (E : Env) (e : List Nd) (L : List Int) (i : Nat) (x : Nd) (w : World) (hS : kbp w sv n1 E.str) (hN : kd6 w nv n2 E.nod) (hT : ShAt w) (hv : Nodes w wv e) (hl : Ints w tv L) (hx : e[i]? = some x) (he : e.length <= 5000) (hLl : L.length = e.length)
 (hg : ∀ i x, e[i]? = some x -> Tr.Good e i x) (hs : x.name.length <= maxLen) (h3 : x.op ≠ 3) (h27 : x.op = 27) : Calls Tryz.prog 50 #[.agg #[sv, nv], .agg (ndC x), wv, tv] w (kbt w (kdL E e L x)) := by
 have hil := (List.getElem?_eq_some_iff.1 hx).1
 have hgx := hg i x hx
 obtain ⟨R, hR⟩ : ∃ R, kdL E e L x = R := ⟨_, rfl⟩
 rw [hR]
 have hop : 1 <= x.op /\ x.op <= 28 := by
  have := hgx.plain
  unfold ka8 at this
  simp at this
  exact this.1.1.1
 obtain ⟨w1, hw1⟩ : ∃ W, (w.alloc (.cells #[sv, nv] 65)).alloc (.cells (ndC x) 39) = W := ⟨_, rfl⟩
 have N := kaV w (.cells #[sv, nv] 65) (.cells (ndC x) 39)
 rw [hw1] at N
 have hb1 := N.1
 have lt1 := lt_of_block N.2.1
 have lt2 := lt_of_block N.2.2
 have HX : Hid (∀ W, Below w1.heap.size w1 W -> (W.cell? ⟨w.heap.size, 0, none⟩ = some sv /\ W.cell? ⟨w.heap.size, 1, none⟩ = some nv /\ W.cell? ⟨w.heap.size + 1, 0, none⟩ = some (.int .i64 x.op) /\ W.cell? ⟨w.heap.size + 1, 1, none⟩ = some (.int .i64 x.a) /\ W.cell? ⟨w.heap.size + 1, 2, none⟩ = some (.int .i64 x.b) /\ W.cell? ⟨w.heap.size + 1, 3, none⟩ = some (.int .i64 x.c) /\ W.cell? ⟨w.heap.size + 1, 4, none⟩ = some (.int .i64 x.n) /\ W.cell? ⟨w.heap.size + 1, 5, none⟩ = some (.string (str x.name)))) := Lib.hid (fun W h => by
  have h1 := (h.block _ lt1).trans N.2.1
  have h2 := (h.block _ lt2).trans N.2.2
  exact ⟨(ka3 h1 0).trans rfl, (ka3 h1 1).trans rfl, (ka3 h2 0).trans rfl, (ka3 h2 1).trans rfl, (ka3 h2 2).trans rfl, (ka3 h2 3).trans rfl, (ka3 h2 4).trans rfl, (ka3 h2 5).trans rfl⟩)
 have HBW : Hid (∀ W, Below w1.heap.size w1 W -> Below w.heap.size w W) := Lib.hid (fun W h => hb1.trans (h.mono hb1.size))
 have HP : Hid (∀ W kv N, Below w1.heap.size w1 W -> Ints W kv N -> (∀ k ∈ N, 0 <= k /\ k < (L.length : Int)) -> N.length <= 5000 -> Calls Tryz.prog 73 #[tv, kv] W (kj3 w1 (kaN L N))) := Lib.hid (fun W kv N h hk h2 h3 => (kdq tv kv L N W (hl.below (HBW.out W h) (Nat.le_refl _)) hk h2 (by omega)).mono (fun r W' hh => kfY h hh))
 obtain ⟨AW, cW, hwe, y1, y2, -⟩ := id hv
 obtain ⟨AT, cT, hte, y3, y4, -⟩ := id hl
 unfold maxLen at y2 y4
 have HW1 := Lib.hid hw1
 have HB1 := Lib.hid hb1
 obtain ⟨q0, q1, q2, q3, q4, q5, q6, q7⟩ := HX.out w1 (Below.refl _ _)
 have b3 : (x.op == 3) = false := by simpa using h3
 have hia := kdl hgx h27
 have HA : Hid (∀ W, Below w1.heap.size w1 W -> Calls Tryz.prog 74 #[wv, .agg (ndC x)] W (kj3 w1 (kaI e x.a))) := Lib.hid (fun W h => (kgM wv e x i W (hv.below (HBW.out W h) (Nat.le_refl _)) he hg (by omega) hia).mono (fun r W' hh => kfY h hh))
 have HAL := Lib.hid (kdw hg i x.a (by omega) hia)
 have HAK := Lib.hid (kel hg i x.a (by omega) hia)
 have HC : Hid (∀ W ov, Below w1.heap.size w1 W -> Ints W ov (kaN L (kaI e x.a)) -> Calls Tryz.prog 72 #[.agg #[sv, nv], .string (str x.name), ov] W (TwoP w1 R)) := Lib.hid (fun W ov h hk => by
  have := kof sv nv ov n2 E.nod x.name _ W (hN.below (HBW.out W h)) hs hk
  rw [show keh (E.nod x.name) (kaN L (kaI e x.a)) = R by rw [<- hR]; unfold kdL; rw [if_neg h3, if_pos h27]] at this
  exact this.mono (fun r W' hh => kq3 h hh))
 obtain ⟨AA, hAA⟩ : ∃ AA, kaI e x.a = AA := ⟨_, rfl⟩
 rw [hAA] at HA HAL HAK HC
 have HAK2 : Hid (∀ k ∈ AA, 0 <= k /\ k < (L.length : Int)) := Lib.hid (fun k hk => by have := HAK.out k hk; omega)
 have HAL2 : Hid (AA.length <= 5000) := Lib.hid (by have := HAL.out; omega)
 obtain ⟨r1, r2⟩ := R
 subst hwe hte
 obtain ⟨op, a, b, cc, n, nm⟩ := x
 simp only at h27 q2 q3 q4 q5 q6 q7 HX HC HA b3
 subst h27
 clear hLl hR hgx hg hx hS hN hT hv hl N hw1 hb1 hia hAA HAK HAL h3
 go_enter Tryz.func50, Tryz.ntmps50
 go_wp2_with fail
 rw [HW1.out]
 go_wp2_with fail
 go_region_held3 (fun W => W.cell? ⟨w.heap.size, 0, none⟩ = some sv /\ W.cell? ⟨w.heap.size, 1, none⟩ = some nv /\ W.cell? ⟨w.heap.size + 1, 0, none⟩ = some (.int .i64 27) /\ W.cell? ⟨w.heap.size + 1, 1, none⟩ = some (.int .i64 a) /\ W.cell? ⟨w.heap.size + 1, 2, none⟩ = some (.int .i64 b) /\ W.cell? ⟨w.heap.size + 1, 3, none⟩ = some (.int .i64 cc) /\ W.cell? ⟨w.heap.size + 1, 4, none⟩ = some (.int .i64 n) /\ W.cell? ⟨w.heap.size + 1, 5, none⟩ = some (.string (str nm)))
  (first | exact ⟨q0, q1, q2, q3, q4, q5, q6, q7⟩ | exact HX.out _ HB3.out | exact HX.out _ HB4.out | exact HX.out _ HB5.out | (go_keep; done))
  (first
   | (go_at_call 74; with_reducible refine (HA.out _ (by first | with_reducible exact Below.refl _ _ | with_reducible exact Tr.below_drewN (Below.refl _ _) _ | with_reducible exact Below.drew (Below.refl _ _))).mono ?_; rintro r w3 ⟨kv, rfl, hi3, hb3⟩; have HB3 := Lib.hid hb3; have HI3 := Lib.hid hi3; obtain ⟨A3, c3, rfl, z1, z2⟩ := kea hi3; clear hb3)
   | (go_at_call 73; with_reducible refine (HP.out _ _ _ HB3.out HI3.out HAK2.out HAL2.out).mono ?_; rintro r w4 ⟨kv, rfl, hi4, hb4⟩; have HB4 := Lib.hid hb4; have HI4 := Lib.hid hi4; obtain ⟨A4, c4, rfl, z3, z4⟩ := kea hi4; clear hb4)
   | (go_at_call 72; with_reducible refine (HC.out _ _ HB4.out HI4.out).mono ?_; rintro r w5 ⟨rfl, hb5⟩; have HB5 := Lib.hid hb5; clear hb5))
 all_goals
  go_wp2
  go_ret2
  exact ⟨rfl, HBW.out _ HB5.out⟩
end Go.Proofs.YtlhcajhgbkgjbaaGreatDoor.Ty

