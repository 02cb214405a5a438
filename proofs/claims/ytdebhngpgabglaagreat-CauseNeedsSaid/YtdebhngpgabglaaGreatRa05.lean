/- The function took counts an equation as taken. Conditions: the queue lies in memory; there are at most 4000 equations. -/
import Derived.Test.YtdebhngpgabglaaGreatRa04
import Derived.Test.YtdebhngpgabglaaGreatKa10
import Derived.Test.YtdebhngpgabglaaGreatKb17
import Derived.Test.YtdebhngpgabglaaGreatKb16
import Derived.Deep.Slices
set_option linter.unusedVariables false
set_option linter.unusedSimpArgs false
namespace Go.Proofs.YtdebhngpgabglaaGreat.Ca
open Go.ChangeShapes Go.WideShapes Go.ChangeAt Go.RowKit Go.Maps Go.WideMaps Go.Proofs.YtdebhngpgabglaaGreat.Tr
def waitQ (Q : Qs) (s : Bytes) : List Nat := if leftB Q [] s = true then waitL Q s else []
theorem waitQ_of {Q : Qs} {i : Nat} (hi : i < Q.length) : waitQ Q (nmQ Q i) = waitL Q (nmQ Q i) := by
 unfold waitQ; rw [if_pos (left_iff.2 ⟨i, hi, by simp, rfl⟩)]
theorem zeroI (w : World) : (zeroValue 3).run Tryz.prog w = .ok (.int .i64 0) w := by kernel_rfl
theorem zeroS (w : World) : (zeroValue 31).run Tryz.prog w = .ok (.slice none 0 0) w := by kernel_rfl
theorem filter_le (n : Nat) (p : Nat → Bool) : ((List.range n).filter p).length ≤ n := by have := List.length_filter_le p (List.range n); simpa using this
def QKp (w w' : World) (B bl gw : Nat) (vr vr' : Value) : Prop := Kp (fun k => k = B ∨ k = bl ∨ k = gw ∨ vr.ownBlock = some k) w w' ∧ (vr'.ownBlock = vr.ownBlock ∨ ∀ k, vr'.ownBlock = some k → w.heap.size ≤ k)
def TookPost (w : World) (base B bl bw gw N : Nat) (vr : Value) (g : Bytes → Option Value) (nl nw : Nat) (Q : Qs) (t : List Nat) (e : Ending) (w' : World) : Prop :=
 e = .returned (.tuple #[]) ∧ ∃ vr' f' nl' H', QuAt w' base B bl bw gw N vr' f' g nl' nw (leftN Q t) (waitQ Q) ((List.range N).map fun k => (waitN Q t k : Int)) H' ∧ H'.Perm (natI ((List.range N).filter (freeB Q t))) ∧ QKp w w' B bl gw vr vr' ∧ nl' ≤ nl + 1
theorem QKp.grownL {w w' : World} {B bl gw : Nat} {vr : Value} (hg : w.grownBy w' (some bl)) : QKp w w' B bl gw vr vr := ⟨(Kp.refl _ _).grown hg (fun k hk _ => by injection hk with hk; exact .inr (.inl hk.symm)), .inl rfl⟩
theorem QKp.set {w w' : World} {B bl gw k : Nat} {vr vr' : Value} {u : Value} (h : QKp w w' B bl gw vr vr') : QKp w (w'.setCell ⟨gw, k, none⟩ u) B bl gw vr vr' := ⟨h.1.setCell (p := ⟨gw, k, none⟩) (.inr (.inr (.inl rfl))) _, h.2⟩
theorem QKp.push {w w1 w2 : World} {B bl gw : Nat} {vr v1 v2 : Value} (h : QKp w w1 B bl gw vr v1) (hk : Kp (fun i => i = B ∨ v1.ownBlock = some i) w1 w2) (hv : v2.ownBlock = v1.ownBlock ∨ ∀ k, v2.ownBlock = some k → w1.heap.size ≤ k) : QKp w w2 B bl gw vr v2 := by
 refine ⟨h.1.trans2 hk (fun i hi e => ?_), ?_⟩
 · rcases e with e | e
   · exact .inl e
   · rcases h.2 with h2 | h2
     · exact .inr (.inr (.inr (h2 ▸ e)))
     · have := h2 i e; omega
 · rcases hv with hv | hv
   · rw [hv]; exact h.2
   · right; intro k hk'; have := hv k hk'; have := h.1.size; omega
set_option maxRecDepth 100000 in
set_option maxHeartbeats 8000000 in
theorem took_any (w : World) (base B bl bw gw : Nat) (vr : Value) (f g : Bytes → Option Value) (nl nw : Nat) (Q : Qs) (t : List Nat) (i : Nat) (H : List Int)
 (h : QuAt w base B bl bw gw Q.length vr f g nl nw (leftN Q t) (waitQ Q) ((List.range Q.length).map fun k => (waitN Q t k : Int)) H)
 (hv : Valid Q t) (hnd : ∀ k, (ndQ Q k).Nodup) (hi : i < Q.length) (hf : freeB Q t i = true) (hH : H.Perm (natI (rdyAt Q t i (waitL Q (nmQ Q i)) 0))) (hn : Q.length ≤ 4000) (hs : (nmQ Q i).length ≤ maxLen) (hnl : nl ≤ 100000) (hnb : ∀ k, (ndQ Q k).length ≤ 100000) :
 Calls Tryz.prog 26 #[.pointer (some ⟨B, 0, none⟩), .string (str (nmQ Q i))] w (TookPost w base B bl bw gw Q.length vr g nl nw Q (t ++ [i])) := by
 have ht := (free_iff.1 hf).1
 have HFW : Hid (waitN Q t i = 0) := Lib.hid (by
  rw [free_wait] at hf
  have := (Bool.and_eq_true _ _ ▸ hf).2
  simpa using this)
 obtain ⟨s, hsn⟩ : ∃ s, nmQ Q i = s := ⟨_, rfl⟩
 obtain ⟨m, hm⟩ : ∃ m, leftN Q (t ++ [i]) s = m := ⟨_, rfl⟩
 have hl := left_took hi ht s
 rw [if_pos hsn, hm] at hl
 have HL := Lib.hid (fun x => left_took (Q := Q) (t := t) hi ht x)
 have hml : m ≤ 4000 := by rw [← hm]; exact Nat.le_trans (filter_le _ _) hn
 have hwm : wrap64 (m : Int) = (m : Int) := by unfold wrap64; omega
 have l1 := h.left.lookN Tryz.underlying67 (zeroI w) s (hsn ▸ hs)
 rw [h.leftV s, hl, show ((m + 1 : Nat) : Int) = (m : Int) + 1 by omega] at l1
 have hcB := h.hp.row.cell
 have k0 : w.cell? ⟨B, 0, none⟩ = some (.map (some bl)) := by simp [World.cell?, hcB]
 obtain ⟨w1, hrun, ⟨f1, hq1⟩, hg1⟩ := h.leftPut (by unfold maxLen; omega) s (hsn ▸ hs) m
 have LF : (fun x => if x = s then m else leftN Q t x) = leftN Q (t ++ [i]) := by
  funext x
  by_cases hx : x = s
  · rw [if_pos hx, hx, hm]
  · rw [if_neg hx, HL.out x, if_neg (fun e => hx (e.symm.trans hsn)), Nat.add_zero]
 rw [LF] at hq1
 have l2 := hq1.left.lookN Tryz.underlying67 (zeroI w1) s (hsn ▸ hs)
 rw [hq1.leftV s, hm] at l2
 have hcB1 := hq1.hp.row.cell
 have j0 : w1.cell? ⟨B, 0, none⟩ = some (.map (some bl)) := by simp [World.cell?, hcB1]
 have j1 : w1.cell? ⟨B, 1, none⟩ = some (.map (some bw)) := by simp [World.cell?, hcB1]
 have HQ1 := Lib.hid hq1
 have HK1 : Hid (QKp w w1 B bl gw vr vr) := Lib.hid (QKp.grownL hg1)
 have HH := Lib.hid hH
 have HS := Lib.hid hsn
 have HM := Lib.hid hm
 have HV := Lib.hid hv
 have HND := Lib.hid hnd
 have HT := Lib.hid ht
 have hB1 := hq1.hp.row.lt
 have hss : s.length ≤ maxLen := hsn ▸ hs
 rw [hsn]
 clear hl hg1 hq1 hcB hcB1 LF h hH hsn hm hv hnd ht hs hf
 by_cases hm0 : 0 < m
 · have hd : decide ((0 : Int) < (m : Int)) = true := decide_eq_true (by omega)
   clear j1
   go_enter Tryz.func26, Tryz.ntmps26
   go_wp2
   go_end0
   have hp0 : 0 < leftN Q (t ++ [i]) (nmQ Q i) := by rw [HS.out, HM.out]; exact hm0
   refine ⟨rfl, vr, f1, nl + 1, H, ?_, ?_, HK1.out, Nat.le_refl _⟩
   · have := HQ1.out
     rw [← wtsL_zero Q t (waitL Q (nmQ Q i)), wtsL_same hi HT.out hp0] at this
     exact this
   · have := HH.out
     rw [rdy_none hi HT.out hp0] at this
     exact this
 obtain rfl : m = 0 := by omega
 rw [show (((0 : Nat) : Int) + 1) = 1 from rfl] at l1
 rw [show (((0 : Nat) : Int)) = 0 from rfl] at hrun l2
 clear hwm
 have hl0 : leftN Q (t ++ [i]) (nmQ Q i) = 0 := by rw [HS.out, HM.out]
 obtain ⟨wl, hwl⟩ : ∃ wl, waitL Q (nmQ Q i) = wl := ⟨_, rfl⟩
 have HWL := Lib.hid hwl
 have l3 : Sem.run Tryz.prog (Instr.lookup 68 (.map (some bw)) (.string (str s)) false) w1 = .ok (wOf g s) w1 := HQ1.out.wait.lookN Tryz.underlying68 (zeroS w1) s hss
 have hwo := HQ1.out.waitV s
 have hwq : waitQ Q s = wl := by rw [← HS.out, waitQ_of hi, hwl]
 rw [hwq] at hwo
 have hwlen : (natI wl).length = wl.length := by unfold natI; simp
 have hwn : wl.length ≤ Q.length := by rw [← hwl]; exact filter_le _ _
 obtain ⟨A3, c3, e3, z1, z2, _⟩ := Ints.of_own hwo
 rw [e3] at l3
 rw [hwlen] at l3 z1
 unfold maxLen at z2
 have HE3 := Lib.hid e3
 have HND2 : Hid wl.Nodup := Lib.hid (by rw [← hwl]; exact wait_nodup _ _)
 have HL0 := Lib.hid hl0
 have HWQ := Lib.hid hwq
 clear hwo hwl hwq e3 hwlen hm0 hl0
 go_enter Tryz.func26, Tryz.ntmps26
 go_wp2
 go_loopw [27] (fun vi wr => ∃ (k : Nat) (vr' : Value) (H' : List Int), k ≤ wl.length ∧ vi = .int .i64 (k : Int) ∧ QuAt wr base B bl bw gw Q.length vr' f1 g (nl + 1) nw (leftN Q (t ++ [i])) (waitQ Q) (wtsL Q t wl k) H' ∧ H'.Perm (natI (rdyAt Q t i wl k)) ∧ QKp w wr B bl gw vr vr') (fun vi _ => wl.length - (intOf vi).toNat)
 case atStart => exact ⟨0, vr, H, Nat.zero_le _, rfl, by rw [wtsL_zero]; exact HQ1.out, by rw [← HWL.out]; exact HH.out, HK1.out⟩
 case round =>
  obtain ⟨k, vr', H', hk, rfl, hq, hp, hkp⟩ := hrel
  have HQ := Lib.hid hq
  have HP := Lib.hid hp
  have HK := Lib.hid hkp
  by_cases hlt : k < wl.length
  · obtain ⟨k0', hk0⟩ : ∃ k0, wl[k]? = some k0 := ⟨_, List.getElem?_eq_getElem hlt⟩
    obtain ⟨p1, p2, p3⟩ := wts_pos HND.out hi HT.out HL0.out (m := k) (k0 := k0') (by rw [HWL.out]; exact hk0)
    rw [HWL.out] at p1 p2
    obtain ⟨x, hx⟩ : ∃ x, wtsAt Q t wl k k0' = x := ⟨_, rfl⟩
    rw [hx] at p1 p2
    have hwv := hq.waitV s
    rw [HWQ.out] at hwv
    obtain ⟨A4, c4, e4, _, _, hA4⟩ := Ints.of_own hwv
    rw [HE3.out] at e4
    simp only [Value.slice.injEq] at e4
    obtain ⟨rfl, _, rfl⟩ := e4
    obtain ⟨g4, o4, rfl, hg4, d0⟩ := hA4 k (k0' : Int) (by unfold natI; rw [List.getElem?_map, hk0]; rfl)
    have hgl := (hq.wts.lt gw rfl).2
    have hw4 : Hid (g4 ≠ gw) := Lib.hid (fun e => by
     have := hq.s2 s
     rw [HE3.out] at this
     exact this (by rw [e]; rfl))
    have cw := (hq.wts.cellAt k0' (by have := hq.wlen; omega)).trans (intsOf_get _ k0' _ (wtsL_get Q t wl k p3))
    rw [hx] at cw
    have fw := hq.wts.frozenAt k0'
    have hcB := hq.hp.row.cell
    have b2 : wr.cell? ⟨B, 2, none⟩ = some (wtV gw Q.length) := by simp [World.cell?, hcB]
    have hBgw := hq.gw_ne.1.symm
    have hgwB := hq.gw_ne.1
    have HQS := Lib.hid (show QuAt (wr.setCell ⟨gw, k0', none⟩ (.int .i64 ((x : Int) - 1))) base B bl bw gw Q.length vr' f1 g (nl + 1) nw (leftN Q (t ++ [i])) (waitQ Q) (wtsL Q t wl (k + 1)) H' by
     have := hq.wtsSet k0' ((x : Int) - 1)
     rw [← hx, wtsL_next HND2.out hk0 p3 (by rw [hx]; exact p1)] at this
     rw [← hx]; exact this)
    have HKS : Hid (QKp w (wr.setCell ⟨gw, k0', none⟩ (.int .i64 ((x : Int) - 1))) B bl gw vr vr') := Lib.hid (HK.out.set)
    have hxi : x ≤ 100000 := by rw [p2]; exact Nat.le_trans (List.length_filter_le _ _) (hnb k0')
    have hwx : wrap64 ((x : Int) - 1) = (x : Int) - 1 := by unfold wrap64; omega
    have hkl : k0' < Q.length := p3
    have HX := Lib.hid hx
    have HK0 := Lib.hid hk0
    have HP2 := Lib.hid p2
    have hBl := hq.hp.row.lt
    have HWP := Lib.hid (wait_mem.1 (by rw [HWL.out]; exact List.mem_of_getElem? hk0 : k0' ∈ waitL Q (nmQ Q i)))
    clear hq hp hkp hx hk0 p2 hA4 hwv hcB
    by_cases hx1 : x = 1
    · subst hx1
      have HPU := Lib.hid (hpush_any _ base B _ _ _ vr' H' (k0' : Int) HQS.out.hp HQS.out.lo.2.2.2 (by rw [HP.out.length_eq]; unfold natI; rw [List.length_map]; exact Nat.le_trans (filter_le _ _) (by omega)))
      go_wp2_with fail
      refine HPU.out.mono ?_
      rintro e w5 ⟨rfl, v5, l5, hp5, hh5, ho5, hk5⟩
      have HQ5 := Lib.hid (HQS.out.heap hh5 ho5 hk5)
      have HK5 := Lib.hid (HKS.out.push hk5 ho5)
      have HP5 : Hid (l5.Perm (natI (rdyAt Q t i wl (k + 1)))) := Lib.hid (by
       refine hp5.trans ((List.Perm.cons _ HP.out).trans ?_)
       have h1 : ¬ k0' ∈ t ++ [i] := fun hmem => by
        rcases List.mem_append.1 hmem with hmem | hmem
        · have := wait_free HV.out hmem
          have := HP2.out
          omega
        · simp at hmem
          subst hmem
          have := HFW.out
          have := HP2.out
          omega
       have := (rdy_more (Q := Q) (t := t) (i := i) HND2.out HK0.out p3 h1 (by rw [HX.out])).symm
       have e := List.Perm.map Int.ofNat this
       unfold natI; exact e)
      clear hp5 hh5 ho5 hk5
      go_wp2
      refine ⟨⟨k + 1, v5, l5, by omega, by go_num, HQ5.out, HP5.out, HK5.out⟩, by simp [intOf]; omega⟩
    · have HP6 : Hid (H'.Perm (natI (rdyAt Q t i wl (k + 1)))) := Lib.hid (by rw [rdy_same HND2.out HK0.out (by rw [HX.out]; omega)]; exact HP.out)
      go_wp2
      refine ⟨⟨k + 1, vr', H', by omega, by go_num, HQS.out, HP6.out, HKS.out⟩, by simp [intOf]; omega⟩
  · have hke : k = wl.length := by omega
    subst hke
    clear hq hp hkp
    go_wp2
    go_end0
    refine ⟨rfl, vr', f1, nl + 1, H', ?_, ?_, HK.out, Nat.le_refl _⟩
    · have := HQ.out
      rw [← HWL.out, wtsL_end HND.out hi HT.out HL0.out (Nat.le_refl _)] at this
      exact this
    · have := HP.out
      rw [← HWL.out, rdy_end HND.out hi HT.out HL0.out (Nat.le_refl _)] at this
      exact this
end Go.Proofs.YtdebhngpgabglaaGreat.Ca
/- What layer prog reads of tokens, as plain functions. Conditions: none. -/
namespace Go.Proofs.YtdebhngpgabglaaGreat.Pg
open Go.Proofs.YtdebhngpgabglaaGreat.Tr Go.Proofs.YtdebhngpgabglaaGreat.Ex
structure Prm where
 name : Bytes
 ty : Int
deriving DecidableEq
structure Eqn where
 name : Bytes
 e : List Nd
deriving DecidableEq
structure Itm where
 kind : Int
 name : Bytes
 ty : Int
 e : List Nd
 f : List Nd
 args : List (List Nd)
deriving DecidableEq
structure Unt where
 contract : Bool
 name : Bytes
 ins : List Prm
 out : Prm
 vars : List Prm
 eqs : List Eqn
 items : List Itm
deriving DecidableEq
structure Prg where
 units : List Unt
 main : Bytes
 back : Bytes
deriving DecidableEq
abbrev PM (α : Type) := Rd → α × Rd
def pBind {α β : Type} (f : PM α) (g : α → PM β) : PM β := fun r => g (f r).1 (f r).2
def pPure {α : Type} (a : α) : PM α := fun r => (a, r)
def txt (r : Rd) : Bytes := r.cur.text
def Rd.stop (C A : Int) (r : Rd) : Rd := if r.code = 0 then ⟨[], r.next, r.begun, C, A⟩ else ⟨[], r.next, r.begun, r.code, r.at_⟩
def Rd.to (n : Nat) (r : Rd) : Rd := ⟨r.l, n, r.begun, r.code, r.at_⟩
def atNameB (r : Rd) : Bool := decide (r.next < r.l.length) && r.cur.kind == 1
def nameP : PM Bytes := fun r => if atNameB r then (txt r, r.adv) else ([], r.fail 5)
def failP (e : Int) : PM Unit := fun r => ((), r.fail e)
def rowMax : Nat := 202
def wBool : Bytes := [98, 111, 111, 108]
def wInt : Bytes := [105, 110, 116]
def wNode : Bytes := [110, 111, 100, 101]
def wContract : Bytes := [99, 111, 110, 116, 114, 97, 99, 116]
def wMain : Bytes := [109, 97, 105, 110]
def wFallback : Bytes := [102, 97, 108, 108, 98, 97, 99, 107]
def wReturns : Bytes := [114, 101, 116, 117, 114, 110, 115]
def wVar : Bytes := [118, 97, 114]
def wLet : Bytes := [108, 101, 116]
def wTel : Bytes := [116, 101, 108]
def wEnd : Bytes := [101, 110, 100]
def wAssume : Bytes := [97, 115, 115, 117, 109, 101]
def wGuarantee : Bytes := [103, 117, 97, 114, 97, 110, 116, 101, 101]
def wGhost : Bytes := [103, 104, 111, 115, 116]
def wMode : Bytes := [109, 111, 100, 101]
def wImport : Bytes := [105, 109, 112, 111, 114, 116]
def wRequire : Bytes := [114, 101, 113, 117, 105, 114, 101]
def wEnsure : Bytes := [101, 110, 115, 117, 114, 101]
def sSemi : Bytes := [59]
def sColon : Bytes := [58]
def sEq : Bytes := [61]
def sComma : Bytes := [44]
end Go.Proofs.YtdebhngpgabglaaGreat.Pg
/- Programs in memory: rows of streams, equations, items, units; worlds in which all blocks but those of some types stay. Conditions: none. -/
namespace Go.Proofs.YtdebhngpgabglaaGreat.Pg
open Go.ChangeShapes Go.WideShapes Go.ChangeAt Go.RowKit
open Go.Proofs.YtdebhngpgabglaaGreat.Ex Go.Proofs.YtdebhngpgabglaaGreat.Tr
structure Stay (P : TypeId → Prop) (w w' : World) : Prop where
 size : w.heap.size ≤ w'.heap.size
 block : ∀ (g : Nat) (cs : Array Value) (T : TypeId) (f : Nat × Nat), w.heap[g]? = some (Obj.cells cs T f) → ¬ P T → w'.heap[g]? = w.heap[g]?
theorem Stay.trans {P : TypeId → Prop} {w w1 w2 : World} (h : Stay P w w1) (k : Stay P w1 w2) : Stay P w w2 :=
 ⟨Nat.le_trans h.size k.size, fun g cs T f hg hp => (k.block g cs T f ((h.block g cs T f hg hp).trans hg) hp).trans (h.block g cs T f hg hp)⟩
theorem Stay.below {P : TypeId → Prop} {w w' : World} (h : Below w.heap.size w w') : Stay P w w' := ⟨h.size, fun g cs T f hg _ => h.block g (lt_of_block hg)⟩
theorem Stay.grown {P : TypeId → Prop} {w w' : World} {row : Option Nat} (h : w.grownBy w' row) (hb : ∀ B, row = some B → ∃ cs T f, w.heap[B]? = some (Obj.cells cs T f) ∧ P T) : Stay P w w' :=
 ⟨h.size, fun g cs T f hg hp => h.block g (lt_of_block hg) (fun e => by
  obtain ⟨cs', T', f', h1, h2⟩ := hb g e.symm
  rw [hg] at h1
  simp only [Option.some.injEq, Obj.cells.injEq] at h1
  exact hp (h1.2.1 ▸ h2))⟩
theorem Stay.pt {P : TypeId → Prop} {w w' : World} {x : Value × Pt} (h : Stay P w w') (hp : ¬ P 59) (k : PtW w x) : PtW w' x :=
 k.keep h.size (fun g ⟨cs, f, hc⟩ => h.block g cs 59 f hc hp)
def RowR {α : Type} (T : TypeId) (K : Nat) (R : World → α → List Value → Prop) (w : World) (l : List α) (v : Value) : Prop :=
 ∃ A c, v = .slice A l.length c ∧ l.length ≤ c ∧ c ≤ maxLen ∧ ∀ (i : Nat) (a : α), l[i]? = some a → ∃ (g : Nat) (x : List Value) (cs : Array Value) (f : Nat × Nat), A = some ⟨g, 0, none⟩ ∧ w.heap[g]? = some (Obj.cells cs T f) ∧ R w a x ∧ x.length = K ∧ ∀ k, k < K → cs[i * K + k]? = x[k]?
theorem RowR.stay {α : Type} {T : TypeId} {K : Nat} {R : World → α → List Value → Prop} {P : TypeId → Prop} {w w' : World} {l : List α} {v : Value} (h : RowR T K R w l v) (st : Stay P w w') (hT : ¬ P T) (hR : ∀ a x, R w a x → R w' a x) : RowR T K R w' l v := by
 obtain ⟨A, c, rfl, h1, h2, h3⟩ := h
 refine ⟨A, c, rfl, h1, h2, fun i a hi => ?_⟩
 obtain ⟨g, x, cs, f, e1, e2, e3, e4, e5⟩ := h3 i a hi
 exact ⟨g, x, cs, f, e1, (st.block g cs T f e2 hT).trans e2, hR a x e3, e4, e5⟩
theorem RowR.nil {α : Type} (T : TypeId) (K : Nat) (R : World → α → List Value → Prop) (w : World) : RowR T K R w [] (.slice none 0 0) :=
 ⟨none, 0, rfl, by simp, by unfold maxLen; omega, fun i a h => by simp at h⟩
def PrmV (w : World) (p : Prm) (x : List Value) : Prop := x = [.string (str p.name), .int .i64 p.ty]
def EqnV (w : World) (q : Eqn) (x : List Value) : Prop := ∃ ev, x = [.string (str q.name), ev] ∧ PtW w (ev, ⟨q.e, 0, 0⟩)
def ExpV (w : World) (e : List Nd) (x : List Value) : Prop := ∃ ev, x = [ev] ∧ PtW w (ev, ⟨e, 0, 0⟩)
def ItmV (w : World) (i : Itm) (x : List Value) : Prop := ∃ ev fv av, x = [.int .i64 i.kind, .string (str i.name), .int .i64 i.ty, ev, fv, av] ∧ PtW w (ev, ⟨i.e, 0, 0⟩) ∧ PtW w (fv, ⟨i.f, 0, 0⟩) ∧ RowR 23 1 ExpV w i.args av
def UntV (w : World) (u : Unt) (x : List Value) : Prop := ∃ iv vv qv lv, x = [.bool u.contract, .string (str u.name), iv, .string (str u.out.name), .int .i64 u.out.ty, vv, qv, lv] ∧ RowR 37 2 PrmV w u.ins iv ∧ RowR 37 2 PrmV w u.vars vv ∧ RowR 52 2 EqnV w u.eqs qv ∧ RowR 129 6 ItmV w u.items lv
def Kept (P : TypeId → Prop) : Prop := ¬ P 59 ∧ ¬ P 23 ∧ ¬ P 37 ∧ ¬ P 52 ∧ ¬ P 129
theorem PrmV.stay {P : TypeId → Prop} {w w' : World} (st : Stay P w w') (p : Prm) (x : List Value) (h : PrmV w p x) : PrmV w' p x := h
theorem EqnV.stay {P : TypeId → Prop} {w w' : World} (st : Stay P w w') (h58 : ¬ P 59) (p : Eqn) (x : List Value) (h : EqnV w p x) : EqnV w' p x := by
 obtain ⟨ev, h1, h2⟩ := h; exact ⟨ev, h1, st.pt h58 h2⟩
theorem ExpV.stay {P : TypeId → Prop} {w w' : World} (st : Stay P w w') (h58 : ¬ P 59) (p : List Nd) (x : List Value) (h : ExpV w p x) : ExpV w' p x := by
 obtain ⟨ev, h1, h2⟩ := h; exact ⟨ev, h1, st.pt h58 h2⟩
theorem ItmV.stay {P : TypeId → Prop} {w w' : World} (st : Stay P w w') (h58 : ¬ P 59) (h23 : ¬ P 23) (p : Itm) (x : List Value) (h : ItmV w p x) : ItmV w' p x := by
 obtain ⟨ev, fv, av, h1, h2, h3, h4⟩ := h
 exact ⟨ev, fv, av, h1, st.pt h58 h2, st.pt h58 h3, h4.stay st h23 (ExpV.stay st h58)⟩
theorem UntV.stay {P : TypeId → Prop} {w w' : World} (st : Stay P w w') (hk : Kept P) (p : Unt) (x : List Value) (h : UntV w p x) : UntV w' p x := by
 obtain ⟨iv, vv, qv, lv, h1, h2, h3, h4, h5⟩ := h
 obtain ⟨k1, k2, k3, k4, k5⟩ := hk
 exact ⟨iv, vv, qv, lv, h1, h2.stay st k3 (PrmV.stay st), h3.stay st k3 (PrmV.stay st), h4.stay st k4 (EqnV.stay st k1), h5.stay st k5 (ItmV.stay st k1 k2)⟩
theorem flat_at {K : Nat} : ∀ (xs : List (List Value)) (i : Nat) (x : List Value), (∀ y ∈ xs, y.length = K) → xs[i]? = some x → ∀ k, k < K → xs.flatten[i * K + k]? = x[k]?
 | [], i, x, _, h, k, _ => by simp at h
 | y :: r, 0, x, hw, h, k, hk => by
  simp at h; subst h
  rw [List.flatten_cons, Nat.zero_mul, Nat.zero_add, List.getElem?_append_left (by rw [hw y (by simp)]; exact hk)]
 | y :: r, i + 1, x, hw, h, k, hk => by
  simp at h
  have hy := hw y (by simp)
  have e : (i + 1) * K = i * K + K := Nat.succ_mul i K
  rw [List.flatten_cons, List.getElem?_append_right (by omega), ← flat_at r i x (fun z hz => hw z (by simp [hz])) h k hk]
  congr 1; omega
structure OList {α : Type} (T : TypeId) (K : Nat) (R : World → α → List Value → Prop) (w : World) (base : Nat) (ov : Value) (l : List α) (xs : List (List Value)) : Prop where
 own : w.ownsRow base T K ov l.length xs.flatten
 len : xs.length = l.length
 wid : ∀ y ∈ xs, y.length = K
 el : ∀ (i : Nat) (x : List Value) (a : α), xs[i]? = some x → l[i]? = some a → R w a x
section
variable {α : Type} {T : TypeId} {K : Nat} {R : World → α → List Value → Prop}
theorem OList.nil (w : World) (base : Nat) : OList (α := α) T K R w base (.slice none 0 0) [] [] :=
 ⟨World.ownsRow_nil _ _ _ _, rfl, fun y h => by simp at h, fun i x a h => by simp at h⟩
theorem OList.typed {w : World} {base : Nat} {ov : Value} {l : List α} {xs : List (List Value)} (h : OList T K R w base ov l xs) : ∀ B, ov.ownBlock = some B → ∃ cs f, w.heap[B]? = some (Obj.cells cs T f) := by
 intro B hB
 obtain ⟨hl, h0 | ⟨g, cap, cur, hv, hb, hh, _⟩⟩ := h.own
 · rw [h0.1] at hB; cases hB
 · rw [hv] at hB
   have e : some g = some B := hB
   injection e with e
   subst e
   exact ⟨_, _, hh⟩
theorem OList.row {w : World} {base : Nat} {ov : Value} {l : List α} {xs : List (List Value)} (h : OList T K R w base ov l xs) : RowR T K R w l ov := by
 obtain ⟨hl, h0 | ⟨g, cap, cur, rfl, hb, hh, hnc, hcm, hcs, hct⟩⟩ := h.own
 · obtain ⟨rfl, h0⟩ := h0
   have : l = [] := List.length_eq_zero_iff.1 h0
   subst this
   exact RowR.nil _ _ _ _
 · have hown : w.ownsRow base T K (.slice (some ⟨g, 0, none⟩) l.length cap) l.length xs.flatten := ⟨hl, .inr ⟨g, cap, cur, rfl, hb, hh, hnc, hcm, hcs, hct⟩⟩
   refine ⟨some ⟨g, 0, none⟩, cap, rfl, hnc, hcm, fun i a hi => ?_⟩
   have hil : i < l.length := (List.getElem?_eq_some_iff.1 hi).1
   obtain ⟨x, hx⟩ : ∃ x, xs[i]? = some x := ⟨_, List.getElem?_eq_getElem (by rw [h.len]; exact hil)⟩
   refine ⟨g, x, cur, _, rfl, hh, h.el i x a hx hi, h.wid x (List.mem_of_getElem? hx), fun k hk => ?_⟩
   have hle : (i + 1) * K ≤ l.length * K := Nat.mul_le_mul_right K hil
   rw [Nat.succ_mul] at hle
   have c := hown.cellAt (i * K + k) (by omega)
   rw [flat_at xs i x h.wid hx k hk] at c
   rw [← c]
   simp [World.cell?, hh]
theorem OList.keep {w w' : World} {base : Nat} {ov : Value} {l : List α} {xs : List (List Value)} (h : OList T K R w base ov l xs) (hk : ∀ g, ov.ownBlock = some g → w'.heap[g]? = w.heap[g]?) (hR : ∀ a x, R w a x → R w' a x) : OList T K R w' base ov l xs :=
 ⟨own_block h.own hk, h.len, h.wid, fun i x a h1 h2 => hR a x (h.el i x a h1 h2)⟩
theorem OList.stay {P : TypeId → Prop} {w w' : World} {base : Nat} {ov : Value} {l : List α} {xs : List (List Value)} (h : OList T K R w base ov l xs) (st : Stay P w w') (hT : ¬ P T) (hR : ∀ a x, R w a x → R w' a x) : OList T K R w' base ov l xs :=
 h.keep (fun g hg => by obtain ⟨cs, f, hc⟩ := h.typed g hg; exact st.block g cs T f hc hT) hR
theorem OList.snoc {w W w' : World} {base : Nat} {ov ov' : Value} {l : List α} {xs : List (List Value)} {a : α} {x : List Value} (h : OList T K R w base ov l xs) (hx : R w a x) (hl : x.length = K) (hW : Below w.heap.size w W) (hown : w'.ownsRow base T K ov' (l.length + 1) (xs.flatten ++ x)) (hg : W.grownBy w' ov.ownBlock)
 (hR : Stay (fun t => t = T) w w' → ∀ a x, R w a x → R w' a x) : OList T K R w' base ov' (l ++ [a]) (xs ++ [x]) := by
 have st : Stay (fun t => t = T) w w' := (Stay.below hW).trans (Stay.grown hg (fun B hB => by
  obtain ⟨cs, f, hc⟩ := h.typed B hB
  exact ⟨cs, T, f, (hW.block B (lt_of_block hc)).trans hc, rfl⟩))
 refine ⟨by rw [List.length_append, List.flatten_append]; simpa using hown, by rw [List.length_append, List.length_append, h.len]; rfl, fun y hy => ?_, fun i y b h1 h2 => hR st _ _ ?_⟩
 · rcases List.mem_append.1 hy with h1 | h1
   · exact h.wid y h1
   · simp at h1; rw [h1]; exact hl
 · by_cases hi : i < xs.length
   · rw [List.getElem?_append_left hi] at h1
     rw [List.getElem?_append_left (by rw [← h.len]; exact hi)] at h2
     exact h.el i y b h1 h2
   · rw [List.getElem?_append_right (by omega)] at h1
     rw [List.getElem?_append_right (by rw [← h.len]; omega)] at h2
     have e0 : i - xs.length = 0 := by
      have := (List.getElem?_eq_some_iff.1 h1).1
      simp at this; omega
     rw [e0] at h1
     rw [← h.len, e0] at h2
     simp at h1 h2
     subst h1; subst h2
     exact hx
end
end Go.Proofs.YtdebhngpgabglaaGreat.Pg
/- Arguments that are programs: what they read as. Conditions: none. -/
namespace Go.Proofs.YtdebhngpgabglaaGreat.Op
open Go.ChangeShapes Go.WideShapes Go.ChangeAt Go.RowKit Go.Deep
open Go.Proofs.YtdebhngpgabglaaGreat.Tr Go.Proofs.YtdebhngpgabglaaGreat.Pg
set_option maxRecDepth 100000
instance : Inhabited Prm := ⟨⟨[], 0⟩⟩
instance : Inhabited Eqn := ⟨⟨[], []⟩⟩
instance : Inhabited Itm := ⟨⟨0, [], 0, [], [], []⟩⟩
instance : Inhabited Unt := ⟨⟨false, [], [], ⟨[], 0⟩, [], [], []⟩⟩
def RowN {α : Type} (K : Nat) (R : World → α → List Value → Prop) (w : World) (l : List α) (v : Value) : Prop :=
 ∃ A c, v = .slice A l.length c ∧ l.length ≤ c ∧ c ≤ maxLen ∧ (A = none → c = 0) ∧ ∀ (i : Nat) (a : α), l[i]? = some a → ∃ (g o : Nat) (x : List Value), A = some ⟨g, o, none⟩ ∧ g < w.heap.size ∧ R w a x ∧ x.length = K ∧ ∀ k, k < K → w.cell? ⟨g, o + i * K + k, none⟩ = x[k]?
def NodesZ (w : World) (v : Value) (e : List Nd) : Prop := Nodes w v e ∧ ∀ c, v = .slice none 0 c → c = 0
def EqnN (w : World) (q : Eqn) (x : List Value) : Prop := ∃ ev, x = [.string (str q.name), ev] ∧ NodesZ w ev q.e ∧ q.name.length ≤ maxLen ∧ Short q.e
theorem cells23 : Tryz.prog.cellsOf 23 = 1 := by kernel_rfl
theorem cells52 : Tryz.prog.cellsOf 52 = 2 := by kernel_rfl
section
variable {H : Type} {enc : TypeId × Value → H} {w : World} {base : Nat} {spare : Nat → Bool} {held : Bool}
theorem trod_row {α : Type} [Inhabited α] {t e : TypeId} {K : Nat} {R : World → α → List Value → Prop} (ht : Tryz.prog.underlying t = some (.slice e)) (hK : Tryz.prog.cellsOf e = K) (hK0 : 0 < K)
 (one : ∀ (n : Nat) (cs : List Value) (y : DataW H × List MemPlace), DataW.trod enc Tryz.prog w base spare held n e cs = some y → ∃ a, R w a cs)
 {n : Nat} {cs : List Value} {y : DataW H × List MemPlace} (h : DataW.trod enc Tryz.prog w base spare held n t cs = some y) : ∃ v l, cs = [v] ∧ RowN K R w l v := by
 rcases open_slice ht h with ⟨rfl, _⟩ | ⟨a, len, cap, m, n', D, Pl, rfl, hb, hl, hm, hmm, _, hi⟩
 · exact ⟨_, [], rfl, none, 0, rfl, by simp, by unfold maxLen; omega, fun _ => rfl, fun i t h => by simp at h⟩
 · have hml : len ≤ m := by rw [hmm]; split <;> omega
   have each : ∀ i, i < len → ∃ x : α × List Value, R w x.1 x.2 ∧ x.2.length = K ∧ ∀ k, k < K → w.cell? (a.add (i * K + k)) = x.2[k]? := fun i hil => by
    obtain ⟨cs', hc, ht'⟩ := hi i (by omega)
    obtain ⟨x, hx⟩ := one _ _ _ ht'
    obtain ⟨_, hcl, hat⟩ := World.cells?_some hc
    rw [hK] at hat hcl
    exact ⟨(x, cs'), hx, hcl, fun k hk => by rw [← Go.Deep.add_add]; exact hat k hk⟩
   obtain ⟨X, hX⟩ := Go.Deep.choose_lt each
   refine ⟨_, (List.range len).map fun i => (X i).1, rfl, some a, cap, by simp, by simpa using hl, hm, (fun h => by cases h), fun i x hx => ?_⟩
   have hil : i < len := by have := (List.getElem?_eq_some_iff.1 hx).1; simpa using this
   rw [List.getElem?_map, List.getElem?_range hil] at hx
   simp only [Option.map_some, Option.some.injEq] at hx
   subst hx
   obtain ⟨_, l0, h0⟩ := hX 0 (by omega)
   have h0 := h0 0 hK0
   rw [List.getElem?_eq_getElem (by omega), Nat.zero_mul] at h0
   obtain ⟨g, o, rfl, hg⟩ := spot_none h0
   obtain ⟨q1, q2, q3⟩ := hX i hil
   refine ⟨g, o, (X i).2, rfl, hg, q1, q2, fun k hk => ?_⟩
   have := q3 k hk
   rw [add_none] at this
   rw [Nat.add_assoc]; exact this
theorem nodes_cells {n : Nat} {c : Value} {y : DataW H × List MemPlace} (h : DataW.trod enc Tryz.prog w base spare held n 23 [c] = some y) : ∃ l, NodesZ w c l ∧ Short l := by
 obtain ⟨u, l, hcs, h1, h2, h3⟩ := trod_nodes Tryz.underlying23 h
 simp only [List.cons.injEq, and_true] at hcs
 subst hcs
 exact ⟨l, ⟨h1, h3⟩, h2⟩
theorem eqn_cells (n : Nat) (cs : List Value) (y : DataW H × List MemPlace) (h : DataW.trod enc Tryz.prog w base spare held n 52 cs = some y) : ∃ a, EqnN w a cs := by
 obtain ⟨xs, m, _, _, hlen, hxl, hf⟩ := DataW.trod_struct Tryz.underlying52 h
 rw [cells52] at hlen
 have hx6 : xs.length = 2 := hxl
 match cs, hlen, xs, hx6 with
 | [c0, c1], _, [y0, y1], _ =>
  have f0 : DataW.trod enc Tryz.prog w base spare held m 9 [c0] = some y0 := by have := hf 0 _ rfl; simpa [cells23, cells9] using this
  have f1 : DataW.trod enc Tryz.prog w base spare held m 23 [c1] = some y1 := by have := hf 1 _ rfl; simpa [cells23, cells9] using this
  obtain ⟨s, e0, -, hs⟩ := DataW.trod_string Tryz.underlying9 f0
  obtain ⟨l, h1, h2⟩ := nodes_cells f1
  simp only [List.cons.injEq, and_true] at e0
  subst e0
  refine ⟨⟨s.toList, l⟩, c1, by rw [str_of], h1, ?_, h2⟩
  rw [ByteArray.toList_eq]; simpa using hs
end
end Go.Proofs.YtdebhngpgabglaaGreat.Op
/- How the queue is filled: what is counted so far; equations in memory. Conditions: none. -/
namespace Go.Proofs.YtdebhngpgabglaaGreat.Ca
open Go.ChangeShapes Go.WideShapes Go.ChangeAt Go.RowKit Go.Maps Go.WideMaps Go.Proofs.YtdebhngpgabglaaGreat.Tr
open Go.Proofs.YtdebhngpgabglaaGreat.Pg (Eqn)
def EqsAt (w : World) (v : Value) (l : List Eqn) : Prop :=
 ∃ A c, v = .slice A l.length c ∧ l.length ≤ c ∧ c ≤ maxLen ∧ ∀ (i : Nat) (q : Eqn), l[i]? = some q → ∃ g o ev, A = some ⟨g, o, none⟩ ∧ g < w.heap.size ∧ w.cell? ⟨g, o + i * 2, none⟩ = some (.string (str q.name)) ∧ w.cell? ⟨g, o + i * 2 + 1, none⟩ = some ev ∧ Nodes w ev q.e ∧ q.name.length ≤ maxLen ∧ Short q.e
theorem EqsAt.below {w w' : World} {v : Value} {l : List Eqn} (h : EqsAt w v l) (hb : Below w.heap.size w w') : EqsAt w' v l := by
 obtain ⟨A, c, rfl, h1, h2, h3⟩ := h
 refine ⟨A, c, rfl, h1, h2, fun i q hi => ?_⟩
 obtain ⟨g, o, ev, e1, e2, e3, e4, e5, e6, e7⟩ := h3 i q hi
 exact ⟨g, o, ev, e1, by have := hb.size; omega, (hb.cell (p := ⟨g, _, none⟩) e2).trans e3, (hb.cell (p := ⟨g, _, none⟩) e2).trans e4, e5.below hb (Nat.le_refl _), e6, e7⟩
theorem EqsAt.of_rowN {w : World} {v : Value} {l : List Eqn} (h : Op.RowN 2 Op.EqnN w l v) : EqsAt w v l := by
 obtain ⟨A, c, rfl, h1, h2, h0, h3⟩ := h
 refine ⟨A, c, rfl, h1, h2, fun i q hi => ?_⟩
 obtain ⟨g, o, x, e1, e2, ⟨ev, rfl, e3, e4, e5⟩, e6, e7⟩ := h3 i q hi
 exact ⟨g, o, ev, e1, e2, by have := e7 0 (by omega); simpa using this, by have := e7 1 (by omega); simpa using this, e3.1, e4, e5⟩
noncomputable def qsOf (l : List Eqn) : Qs := l.map fun q => (q.name, needsM q.e)
theorem qs_len (l : List Eqn) : (qsOf l).length = l.length := by unfold qsOf; simp
theorem qs_at {l : List Eqn} {i : Nat} {q : Eqn} (h : l[i]? = some q) : nmQ (qsOf l) i = q.name ∧ ndQ (qsOf l) i = needsM q.e := by
 unfold nmQ ndQ qsOf
 simp [List.getD, h]
theorem qs_nodup (l : List Eqn) (k : Nat) : (ndQ (qsOf l) k).Nodup := by
 cases h : l[k]? with
 | some q => rw [(qs_at h).2]; exact needs_nodup _
 | none =>
  have : ndQ (qsOf l) k = [] := by unfold ndQ qsOf; simp [List.getD, h]
  rw [this]; exact List.nodup_nil
theorem needs_len (e : List Nd) : (needsM e).length ≤ 100000 := by
 rw [needs_vis]
 refine Nat.le_trans (ddp_len _) ?_
 unfold visL
 refine Nat.le_trans (List.length_filterMap_le _ _) ?_
 rw [List.length_zip, late_len]
 have : (normB e).length ≤ 5000 := by
  cases h : mayB e with
  | false => rw [norm_no h]; simp
  | true =>
   have hm := may_of h
   rw [norm_yes h, T.flat_len]
   have := hm.size
   have := hm.le
   unfold root; omega
 omega
theorem qs_nlen (l : List Eqn) (k : Nat) : (ndQ (qsOf l) k).length ≤ 100000 := by
 cases h : l[k]? with
 | some q => rw [(qs_at h).2]; exact needs_len _
 | none =>
  have : ndQ (qsOf l) k = [] := by unfold ndQ qsOf; simp [List.getD, h]
  rw [this]; simp
theorem visL_sub {L : List Nd} {D : List Bool} {s : Bytes} (h : s ∈ visL L D) : ∃ x ∈ L, x.name = s := by
 unfold visL at h
 obtain ⟨p, hp, he⟩ := List.mem_filterMap.1 h
 obtain ⟨x, d⟩ := p
 split at he
 · injection he with he
   exact ⟨x, (List.of_mem_zip hp).1, he⟩
 · cases he
theorem needs_short {e : List Nd} (h : Short e) : ∀ s ∈ needsM e, s.length ≤ maxLen := by
 intro s hs
 rw [needs_vis, ddp_mem] at hs
 obtain ⟨x, hx, rfl⟩ := visL_sub hs
 exact short_norm h x hx
def lfP (Q : Qs) (k : Nat) (s : Bytes) : Nat := ((List.range k).filter fun j => nmQ Q j == s).length
theorem lfP_next (Q : Qs) (k : Nat) : (fun x => if x = nmQ Q k then lfP Q k (nmQ Q k) + 1 else lfP Q k x) = lfP Q (k + 1) := by
 funext x
 unfold lfP
 rw [List.range_succ, List.filter_append, List.length_append]
 by_cases h : x = nmQ Q k
 · subst h; rw [if_pos rfl]; simp
 · rw [if_neg h, List.filter_cons_of_neg (by simp [Ne.symm h])]; simp
theorem lfP_end (Q : Qs) : lfP Q Q.length = leftN Q [] := by funext s; unfold lfP leftN; simp
theorem lfP_le (Q : Qs) (k : Nat) (s : Bytes) : lfP Q k s ≤ k := filter_le _ _
def cfP (Q : Qs) (i k : Nat) (s : Bytes) : List Nat := if leftB Q [] s = true then ((List.range i).filter fun j => (ndQ Q j).contains s) ++ (if s ∈ (ndQ Q i).take k then [i] else []) else []
theorem mem_take_next {l : List Bytes} {k : Nat} {s x : Bytes} (h : l[k]? = some s) : x ∈ l.take (k + 1) ↔ x ∈ l.take k ∨ x = s := by
 rw [List.take_add_one, h]; simp
theorem nodup_take {l : List Bytes} {k : Nat} {s : Bytes} (hn : l.Nodup) (h : l[k]? = some s) : s ∉ l.take k := by
 intro hk
 obtain ⟨a, ha, e⟩ := List.mem_iff_getElem.1 hk
 have hal : a < k := by simp at ha; omega
 have h1 := (List.getElem?_eq_some_iff.1 h)
 obtain ⟨hkl, e1⟩ := h1
 have hp := List.pairwise_iff_getElem.1 hn a k (by omega) hkl hal
 rw [List.getElem_take] at e
 exact hp (e.trans e1.symm)
theorem cfP_yes {Q : Qs} {i k : Nat} {s : Bytes} (hn : (ndQ Q i).Nodup) (h : (ndQ Q i)[k]? = some s) (hl : leftB Q [] s = true) : (fun x => if x = s then cfP Q i k s ++ [i] else cfP Q i k x) = cfP Q i (k + 1) := by
 funext x
 unfold cfP
 by_cases hx : x = s
 · subst hx
   rw [if_pos rfl, if_pos hl, if_pos hl, if_neg (nodup_take hn h), if_pos ((mem_take_next h).2 (.inr rfl)), List.append_nil]
 · rw [if_neg hx]
   by_cases hb : leftB Q [] x = true
   · rw [if_pos hb, if_pos hb]
     by_cases hm : x ∈ (ndQ Q i).take k
     · rw [if_pos hm, if_pos ((mem_take_next h).2 (.inl hm))]
     · rw [if_neg hm, if_neg (fun hh => ((mem_take_next h).1 hh).elim hm hx)]
   · rw [if_neg hb, if_neg hb]
theorem cfP_no {Q : Qs} {i k : Nat} {s : Bytes} (h : (ndQ Q i)[k]? = some s) (hl : leftB Q [] s = false) : cfP Q i (k + 1) = cfP Q i k := by
 funext x
 unfold cfP
 by_cases hb : leftB Q [] x = true
 · rw [if_pos hb, if_pos hb]
   have hx : x ≠ s := fun e => by rw [e, hl] at hb; cases hb
   by_cases hm : x ∈ (ndQ Q i).take k
   · rw [if_pos hm, if_pos ((mem_take_next h).2 (.inl hm))]
   · rw [if_neg hm, if_neg (fun hh => ((mem_take_next h).1 hh).elim hm hx)]
 · rw [if_neg hb, if_neg hb]
theorem cfP_round (Q : Qs) (i k : Nat) (hk : (ndQ Q i).length ≤ k) : cfP Q i k = cfP Q (i + 1) 0 := by
 funext x
 unfold cfP
 rw [List.take_of_length_le hk, List.take_zero, List.range_succ, List.filter_append]
 by_cases hb : leftB Q [] x = true
 · rw [if_pos hb, if_pos hb]
   by_cases hm : x ∈ ndQ Q i
   · rw [if_pos hm, List.filter_cons_of_pos (by simpa using hm)]; simp
   · rw [if_neg hm, List.filter_cons_of_neg (by simpa using hm)]; simp
 · rw [if_neg hb, if_neg hb]
theorem cfP_start (Q : Qs) : cfP Q 0 0 = fun _ => [] := by funext x; unfold cfP; simp
theorem cfP_end (Q : Qs) : cfP Q Q.length 0 = waitQ Q := by funext x; unfold cfP waitQ waitL; simp
def cnP (Q : Qs) (i k : Nat) : Nat := (((ndQ Q i).take k).filter (leftB Q [])).length
def wpN (Q : Qs) (i k j : Nat) : Nat := if j < i then waitN Q [] j else if j = i then cnP Q i k else 0
def wpP (Q : Qs) (i k : Nat) : List Int := (List.range Q.length).map fun j => (wpN Q i k j : Int)
theorem wpP_len (Q : Qs) (i k : Nat) : (wpP Q i k).length = Q.length := by unfold wpP; simp
theorem wpP_get (Q : Qs) (i k : Nat) {j : Nat} (hj : j < Q.length) : (wpP Q i k)[j]? = some (wpN Q i k j : Int) := by
 unfold wpP; rw [List.getElem?_map, List.getElem?_range hj]; rfl
theorem wpN_at (Q : Qs) (i k : Nat) : wpN Q i k i = cnP Q i k := by unfold wpN; rw [if_neg (by omega), if_pos rfl]
theorem cnP_next {Q : Qs} {i k : Nat} {s : Bytes} (h : (ndQ Q i)[k]? = some s) : cnP Q i (k + 1) = cnP Q i k + (if leftB Q [] s = true then 1 else 0) := by
 unfold cnP
 rw [List.take_add_one, h, List.filter_append, List.length_append]
 by_cases hb : leftB Q [] s = true
 · rw [if_pos hb]; simp [hb]
 · rw [if_neg hb]; simp [hb]
theorem wpP_yes {Q : Qs} {i k : Nat} {s : Bytes} (h : (ndQ Q i)[k]? = some s) (hl : leftB Q [] s = true) (hi : i < Q.length) : (wpP Q i k).set i ((cnP Q i k : Int) + 1) = wpP Q i (k + 1) := by
 apply List.ext_getElem?
 intro j
 rw [List.getElem?_set, wpP_len]
 by_cases hj : j < Q.length
 · rw [wpP_get Q i k hj, wpP_get Q i (k + 1) hj]
   by_cases e : i = j
   · subst e
     rw [if_pos rfl, if_pos hj, wpN_at, cnP_next h, if_pos hl]; rfl
   · rw [if_neg e]; unfold wpN; rw [if_neg (Ne.symm e), if_neg (Ne.symm e)]
 · rw [if_neg (by omega), List.getElem?_eq_none_iff.2 (by rw [wpP_len]; omega), List.getElem?_eq_none_iff.2 (by rw [wpP_len]; omega)]
theorem wpP_no {Q : Qs} {i k : Nat} {s : Bytes} (h : (ndQ Q i)[k]? = some s) (hl : leftB Q [] s = false) : wpP Q i (k + 1) = wpP Q i k := by
 unfold wpP wpN
 rw [cnP_next h, if_neg (by rw [hl]; simp), Nat.add_zero]
theorem cnP_all {Q : Qs} {i k : Nat} (hk : (ndQ Q i).length ≤ k) : cnP Q i k = waitN Q [] i := by unfold cnP waitN; rw [List.take_of_length_le hk]
theorem wpP_round (Q : Qs) (i k : Nat) (hk : (ndQ Q i).length ≤ k) : wpP Q i k = wpP Q (i + 1) 0 := by
 unfold wpP
 refine List.map_congr_left (fun j _ => ?_)
 unfold wpN
 rw [cnP_all hk]
 by_cases h1 : j < i
 · rw [if_pos h1, if_pos (by omega)]
 · rw [if_neg h1]
   by_cases h2 : j = i
   · subst h2; rw [if_pos rfl, if_pos (by omega)]
   · rw [if_neg h2, if_neg (by omega)]
     by_cases h3 : j = i + 1
     · rw [if_pos h3]; unfold cnP; simp
     · rw [if_neg h3]
theorem wpP_start (Q : Qs) : wpP Q 0 0 = List.replicate Q.length 0 := by
 apply List.ext_getElem?
 intro j
 by_cases hj : j < Q.length
 · rw [wpP_get Q 0 0 hj, List.getElem?_replicate, if_pos hj]
   unfold wpN cnP; simp
 · rw [List.getElem?_eq_none_iff.2 (by rw [wpP_len]; omega), List.getElem?_eq_none_iff.2 (by simp; omega)]
theorem wpP_end (Q : Qs) : wpP Q Q.length 0 = (List.range Q.length).map fun k => (waitN Q [] k : Int) := by
 unfold wpP
 refine List.map_congr_left (fun j hj => ?_)
 unfold wpN; rw [if_pos (List.mem_range.1 hj)]
def rdP (Q : Qs) (i : Nat) : List Nat := (List.range i).filter fun j => waitN Q [] j == 0
theorem rdP_yes {Q : Qs} {i : Nat} (h : waitN Q [] i = 0) : (i :: rdP Q i).Perm (rdP Q (i + 1)) := by
 unfold rdP
 rw [List.range_succ, List.filter_append, List.filter_cons_of_pos (by rw [h]; rfl)]
 exact List.perm_append_comm (l₁ := [i])
theorem rdP_no {Q : Qs} {i : Nat} (h : waitN Q [] i ≠ 0) : rdP Q (i + 1) = rdP Q i := by
 unfold rdP
 rw [List.range_succ, List.filter_append, List.filter_cons_of_neg (by simpa using h)]; simp
theorem rdP_end (Q : Qs) : rdP Q Q.length = (List.range Q.length).filter (freeB Q []) := by
 unfold rdP
 refine List.filter_congr (fun j _ => ?_)
 rw [free_wait]; simp
end Go.Proofs.YtdebhngpgabglaaGreat.Ca
