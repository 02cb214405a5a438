/- The heap's Push and Pop; the least number. Conditions: what may be taken lies in the queue. -/
import Derived.Test.YtdebhngpgabglaaGreatRa01
import Derived.Test.YtdebhngpgabglaaGreatKa01
import Derived.Laws.CopyOwn
import Derived.Test.YtdebhngpgabglaaGreatKa07
import Derived.Test.YtdebhngpgabglaaGreatKa10
import Derived.Deep.RegionLaw
import Derived.Deep.AppendLies
set_option linter.unusedVariables false
set_option linter.unusedSimpArgs false
namespace Go.Proofs.YtdebhngpgabglaaGreat.Ca
open Go.ChangeShapes Go.WideShapes Go.ChangeAt Go.RowKit Go.Proofs.YtdebhngpgabglaaGreat.Tr
structure HpAt (w : World) (base B : Nat) (c0 c1 c2 v : Value) (l : List Int) : Prop where
 row : RdAt w base B c0 c1 c2 v l
 heap : Hp l l.length
def HPushPost (w : World) (base B : Nat) (c0 c1 c2 v : Value) (l : List Int) (x : Int) (e : Ending) (w' : World) : Prop :=
 e = .returned (.tuple #[]) ∧ ∃ v' l', l'.Perm (x :: l) ∧ HpAt w' base B c0 c1 c2 v' l' ∧ (v'.ownBlock = v.ownBlock ∨ ∀ g, v'.ownBlock = some g → w.heap.size ≤ g) ∧ Kp (fun i => i = B ∨ v.ownBlock = some i) w w'
set_option maxRecDepth 100000 in
set_option maxHeartbeats 4000000 in
theorem hpush_any (w : World) (base B : Nat) (c0 c1 c2 v : Value) (l : List Int) (x : Int) (h : HpAt w base B c0 c1 c2 v l) (hb : base ≤ w.heap.size) (hn : l.length ≤ 100000) :
 Calls Tryz.prog 45 #[ifc B, .iface 3 (.int .i64 x)] w (HPushPost w base B c0 c1 c2 v l x) := by
 have H := Lib.hid h
 have m0 := mPush B
 have e0 := ePush
 have e1 := eLen
 clear h
 go_enter Tryz.func45, Tryz.ntmps45
 go_wp2_with fail
 refine (rpush_any w base B c0 c1 c2 v l x H.out.row hb hn).mono ?_
 rintro e w1 ⟨rfl, g, c, hr, hat, hk⟩
 have hm := mLen hr.at3.1
 have HR := Lib.hid hr
 have HAT := Lib.hid hat
 have HK := Lib.hid hk
 clear hr hat hk
 go_wp2_with fail
 refine (len_any _ _ _ _).mono ?_
 rintro e w1' ⟨rfl, rfl⟩
 have hz : ((l.length : Int) + 1) - 1 = (l.length : Int) := by omega
 go_wp2_with fail
 refine (up_any w1' base B g (l.length + 1) c l.length c0 c1 c2 (l ++ [x]) HR.out (by simp) (by omega) (by omega) (up_begin H.out.heap x rfl)).mono ?_
 rintro e w2 ⟨rfl, l', hp, hh, hr2, hk2⟩
 have hlen : l'.length = l.length + 1 := by rw [hp.length_eq]; simp
 have HE : Hid (HPushPost w base B c0 c1 c2 v l x (.returned (.tuple #[])) w2) := Lib.hid ⟨rfl, .slice (some ⟨g, 0, none⟩) (l.length + 1) c, l', hp.trans List.perm_append_comm, ⟨hr2, by rw [hlen]; exact hh⟩,
  HAT.out.imp (fun e => e.symm) (fun e k hk => by
   have e2 : some g = some k := hk
   injection e2 with e2; omega),
  HK.out.trans2 hk2 (fun i hi e => by
   subst e
   rcases HAT.out with e | e
   · exact .inr e
   · omega)⟩
 clear hp hh hr2 hk2 hlen
 go_wp2
 go_end0
 exact HE.out
def HPopPost (w : World) (base B : Nat) (c0 c1 c2 v : Value) (l : List Int) (R : Value) (e : Ending) (w' : World) : Prop :=
 e = .returned R ∧ ∃ v' l', (gd l 0 :: l').Perm l ∧ HpAt w' base B c0 c1 c2 v' l' ∧ v'.ownBlock = v.ownBlock ∧ Kp (fun i => i = B ∨ v.ownBlock = some i) w w'
theorem pop_end {l l1 : List Int} {n : Nat} (hl : l.length = n + 1) (hp : l1.Perm (sw l 0 n)) (hg : gd l1 n = gd (sw l 0 n) n) : gd l1 n = gd l 0 ∧ (gd l 0 :: l1.take n).Perm l ∧ (l1.take n).length = n := by
 have h1 : gd (sw l 0 n) n = gd l 0 := by rw [gd_sw (by omega) (by omega), if_pos rfl]
 have hl1 : l1.length = n + 1 := by rw [hp.length_eq, sw_len, hl]
 rw [h1] at hg
 have e : l1.take n ++ [gd l 0] = l1 := by
  have := List.take_append_drop n l1
  rw [List.drop_eq_getElem_cons (by omega), List.drop_eq_nil_of_le (by omega)] at this
  rw [← hg, gd_eq (by omega)]; exact this
 refine ⟨hg, ?_, by rw [List.length_take]; omega⟩
 have h2 : (gd l 0 :: l1.take n).Perm (l1.take n ++ [gd l 0]) := List.perm_append_comm (l₁ := [gd l 0])
 rw [e] at h2
 exact h2.trans (hp.trans (sw_perm (by omega) (by omega)))
set_option maxRecDepth 100000 in
set_option maxHeartbeats 4000000 in
theorem hpop_any (w : World) (base B : Nat) (c0 c1 c2 v : Value) (l : List Int) (h : HpAt w base B c0 c1 c2 v l) (h0 : 0 < l.length) (hn : l.length ≤ 100000) :
 Calls Tryz.prog 46 #[ifc B] w (HPopPost w base B c0 c1 c2 v l (.iface 3 (.int .i64 (gd l 0)))) := by
 obtain ⟨n, hln⟩ : ∃ n, l.length = n + 1 := ⟨l.length - 1, by omega⟩
 obtain ⟨g, c, rfl⟩ : ∃ g c, v = .slice (some ⟨g, 0, none⟩) (n + 1) c := by
  obtain ⟨-, h1 | ⟨g, cap, cur, e, -⟩⟩ := h.row.own
  · omega
  · exact ⟨g, cap, by rw [e, hln]⟩
 have H := Lib.hid h
 have HLN := Lib.hid hln
 have m0 := mPop B
 have e0 := ePop
 have e1 := eLen
 have e2 := eSwap
 have hm := mLen h.row.at3.1
 have hm2 := mSwap h.row.at3.1
 have hz : ((n : Int) + 1) - 1 = (n : Int) := by omega
 have hnn : n ≤ 100000 := by omega
 clear h hln h0 hn
 go_enter Tryz.func46, Tryz.ntmps46
 go_wp2_with fail
 refine (len_any _ _ _ _).mono ?_
 rintro e w1' ⟨rfl, rfl⟩
 go_wp2_with fail
 refine (swap_z 0 n H.out.row HLN.out (by omega) (by omega) rfl rfl).mono ?_
 rintro e w2 ⟨rfl, hr2, hk2⟩
 have HR2 := Lib.hid hr2
 have HK2 := Lib.hid hk2
 clear hr2 hk2 hm hm2
 go_wp2_with fail
 refine (down_any w2 base B g (n + 1) n c c0 c1 c2 (sw l 0 n) HR2.out (by rw [sw_len]; exact HLN.out) (by omega) (by omega) (dn_begin (by have := H.out.heap; rw [HLN.out] at this; exact this) HLN.out)).mono ?_
 rintro e w3 ⟨b, l1, rfl, hp, hh, hg, hr3, hk3⟩
 have HX := Lib.hid (pop_end HLN.out hp (hg n (Nat.le_refl _)))
 have HHP := Lib.hid (hp_take hh (by rw [hp.length_eq, sw_len, HLN.out]; omega))
 have HPP := Lib.hid (rpop_any w3 base B g n c c0 c1 c2 l1 (by rw [hp.length_eq, sw_len, HLN.out]) hr3)
 have HK3 := Lib.hid hk3
 clear hp hh hg hr3 hk3
 go_wp2_with fail
 refine HPP.out.mono ?_
 rintro e w4 ⟨rfl, hr4, hk4⟩
 have HE : Hid (HPopPost w1' base B c0 c1 c2 (.slice (some ⟨g, 0, none⟩) (n + 1) c) l (.iface 3 (.int .i64 (gd l 0))) (.returned (.iface 3 (.int .i64 (gd l1 n)))) w4) := Lib.hid (by
  obtain ⟨q1, q2, q3⟩ := HX.out
  refine ⟨by rw [q1], _, l1.take n, q2, ⟨hr4, by rw [q3]; exact HHP.out⟩, rfl, ?_⟩
  have k1 : Kp (fun i => i = B ∨ some g = some i) w1' w3 := (HK2.out.trans HK3.out).wide (fun i _ e => .inr (by rw [e]))
  exact k1.trans2 hk4 (fun i _ e => .inl e))
 clear hr4 hk4
 go_wp2
 go_ret
 exact HE.out
set_option maxRecDepth 100000 in
set_option maxHeartbeats 4000000 in
theorem least_any (w : World) (base B : Nat) (c0 c1 c2 v : Value) (l : List Int) (h : HpAt w base B c0 c1 c2 v l) (h0 : 0 < l.length) (hn : l.length ≤ 100000) :
 Calls Tryz.prog 25 #[.pointer (some ⟨B, 3, none⟩)] w (HPopPost w base B c0 c1 c2 v l (.int .i64 (gd l 0))) := by
 have hta := ta_int (gd l 0)
 have H := Lib.hid h
 have h1 := Lib.hid h0
 have h2 := Lib.hid hn
 clear h h0 hn
 go_enter Tryz.func25, Tryz.ntmps25
 go_wp2_with fail
 refine (hpop_any w base B c0 c1 c2 v l H.out h1.out h2.out).mono ?_
 rintro e w1 ⟨rfl, hx⟩
 have HX := Lib.hid hx
 clear hx
 go_wp2
 go_ret
 exact ⟨rfl, HX.out⟩
end Go.Proofs.YtdebhngpgabglaaGreat.Ca
/- What an expression needs at the same instant, as plain functions of trees. Conditions: none. -/
namespace Go.Proofs.YtdebhngpgabglaaGreat.Ca
open Go.Proofs.YtdebhngpgabglaaGreat.Tr
def endB (op : Int) : Bool := op == 21 || op == 24
def laterT : T → Bool → List Bool
 | .l0 _, b => [b]
 | .l1 x p, b => laterT p (b || endB x.op) ++ [b]
 | .l2 x p q, b => laterT p (b || endB x.op) ++ laterT q (b || endB x.op) ++ [b]
 | .l3 x p q r, b => laterT p (b || endB x.op) ++ laterT q (b || endB x.op) ++ laterT r (b || endB x.op) ++ [b]
theorem later_len (t : T) : ∀ b, (laterT t b).length = t.size := by
 induction t with
 | l0 x => intro b; rfl
 | l1 x p ih => intro b; simp [laterT, T.size, ih]
 | l2 x p q ih1 ih2 => intro b; simp [laterT, T.size, ih1, ih2]; omega
 | l3 x p q r ih1 ih2 ih3 => intro b; simp [laterT, T.size, ih1, ih2, ih3]; omega
theorem later_last (t : T) : ∀ b, (laterT t b)[t.size - 1]? = some b := by
 intro b
 cases t with
 | l0 x => rfl
 | l1 x p => simp only [laterT, T.size]; rw [List.getElem?_append_right (by rw [later_len]; omega), later_len]; simp
 | l2 x p q => simp only [laterT, T.size]; rw [List.getElem?_append_right (by rw [List.length_append, later_len, later_len]; omega), List.length_append, later_len, later_len]; simp
 | l3 x p q r => simp only [laterT, T.size]; rw [List.getElem?_append_right (by rw [List.length_append, List.length_append, later_len, later_len, later_len]; omega), List.length_append, List.length_append, later_len, later_len, later_len]; simp
def KD (base : Nat) (F : List Nd) (D : List Bool) : Prop := ∀ (i : Nat) (x : Nd) (k : Int), F[i]? = some x → k ∈ kidsM x → (base : Int) ≤ k ∧ k.toNat - base < F.length ∧ ∀ d, D[i]? = some d → D[k.toNat - base]? = some (d || endB x.op)
theorem KD.two {b : Nat} {F G : List Nd} {D E : List Bool} (hF : KD b F D) (hG : KD (b + F.length) G E) (hD : D.length = F.length) (hE : E.length = G.length) : KD b (F ++ G) (D ++ E) := by
 intro i x k hi hk
 by_cases h : i < F.length
 · rw [List.getElem?_append_left h] at hi
   obtain ⟨h1, h2, h3⟩ := hF i x k hi hk
   refine ⟨h1, by rw [List.length_append]; omega, fun d hd => ?_⟩
   rw [List.getElem?_append_left (by omega)] at hd ⊢
   exact h3 d hd
 · rw [List.getElem?_append_right (by omega)] at hi
   obtain ⟨h1, h2, h3⟩ := hG _ x k hi hk
   refine ⟨by omega, by rw [List.length_append]; omega, fun d hd => ?_⟩
   rw [List.getElem?_append_right (by omega)] at hd ⊢
   rw [hD] at hd ⊢
   have := h3 d hd
   rw [show k.toNat - b - F.length = k.toNat - (b + F.length) by omega]; exact this
theorem KD.root {b : Nat} {F : List Nd} {D : List Bool} {x : Lab} {l : List Int} {d : Bool} (hF : KD b F D) (hD : D.length = F.length) (hf : fitsB x.op l.length = true) (hl : ∀ k ∈ l, (b : Int) ≤ k ∧ k.toNat - b < F.length ∧ D[k.toNat - b]? = some (d || endB x.op)) : KD b (F ++ [mkL x l]) (D ++ [d]) := by
 intro i y k hi hk
 by_cases h : i < F.length
 · rw [List.getElem?_append_left h] at hi
   obtain ⟨h1, h2, h3⟩ := hF i y k hi hk
   refine ⟨h1, by rw [List.length_append]; omega, fun e he => ?_⟩
   rw [List.getElem?_append_left (by omega)] at he ⊢
   exact h3 e he
 · rw [List.getElem?_append_right (by omega)] at hi
   have hi0 : i - F.length = 0 := by have := (List.getElem?_eq_some_iff.1 hi).1; simpa using this
   rw [hi0] at hi
   simp at hi
   subst hi
   rw [kids_mkL x l hf (fun k hk => by have := (hl k hk).1; omega)] at hk
   obtain ⟨h1, h2, h3⟩ := hl k hk
   refine ⟨h1, by rw [List.length_append]; omega, fun e he => ?_⟩
   rw [List.getElem?_append_right (by omega), hD, hi0] at he
   simp at he
   subst he
   rw [List.getElem?_append_left (by omega), h3, mkL_op]
theorem KD.nil (b : Nat) : KD b [] [] := fun i x k hi => by simp at hi
theorem later_kd (t : T) : ∀ (base : Nat) (b : Bool), t.okB = true → KD base (t.flat base) (laterT t b) := by
 induction t with
 | l0 x =>
  intro base b ok
  simp only [T.okB, Bool.and_eq_true] at ok
  exact KD.root (KD.nil base) rfl (l := []) ok.2 (fun k hk => by simp at hk)
 | l1 x p ih =>
  intro base b ok
  simp only [T.okB, Bool.and_eq_true] at ok
  refine KD.root (ih base _ ok.2) (by rw [later_len, T.flat_len]) (l := [_]) ok.1.1.2 (fun k hk => ?_)
  have := p.size_pos
  simp only [List.mem_cons, List.not_mem_nil, or_false] at hk
  subst hk
  refine ⟨by omega, by rw [T.flat_len]; omega, ?_⟩
  rw [show ((base + p.size - 1 : Nat) : Int).toNat - base = p.size - 1 by omega]
  exact later_last p _
 | l2 x p q ih1 ih2 =>
  intro base b ok
  simp only [T.okB, Bool.and_eq_true] at ok
  have := p.size_pos
  have := q.size_pos
  refine KD.root (KD.two (ih1 base _ ok.1.2) (by rw [T.flat_len]; exact ih2 (base + p.size) _ ok.2) (by rw [later_len, T.flat_len]) (by rw [later_len, T.flat_len])) (by rw [List.length_append, List.length_append, later_len, T.flat_len, later_len, T.flat_len]) (l := [_, _]) ok.1.1.1.2 (fun k hk => ?_)
  simp only [List.mem_cons, List.not_mem_nil, or_false] at hk
  rw [List.length_append, T.flat_len, T.flat_len]
  rcases hk with rfl | rfl
  · refine ⟨by omega, by omega, ?_⟩
    rw [show ((base + p.size - 1 : Nat) : Int).toNat - base = p.size - 1 by omega, List.getElem?_append_left (by rw [later_len]; omega)]
    exact later_last p _
  · refine ⟨by omega, by omega, ?_⟩
    rw [show ((base + p.size + q.size - 1 : Nat) : Int).toNat - base = p.size + (q.size - 1) by omega, List.getElem?_append_right (by rw [later_len]; omega), later_len, Nat.add_sub_cancel_left]
    exact later_last q _
 | l3 x p q r ih1 ih2 ih3 =>
  intro base b ok
  simp only [T.okB, Bool.and_eq_true] at ok
  have := p.size_pos
  have := q.size_pos
  have := r.size_pos
  have h12 := KD.two (ih1 base (b || endB x.op) ok.1.1.2) (by rw [T.flat_len]; exact ih2 (base + p.size) (b || endB x.op) ok.1.2) (by rw [later_len, T.flat_len]) (by rw [later_len, T.flat_len])
  refine KD.root (KD.two h12 (by rw [List.length_append, T.flat_len, T.flat_len, ← Nat.add_assoc]; exact ih3 (base + p.size + q.size) _ ok.2) (by rw [List.length_append, List.length_append, later_len, T.flat_len, later_len, T.flat_len]) (by rw [later_len, T.flat_len])) (by simp only [List.length_append, later_len, T.flat_len]) (l := [_, _, _]) ok.1.1.1.1.2 (fun k hk => ?_)
  simp only [List.mem_cons, List.not_mem_nil, or_false] at hk
  rw [List.length_append, List.length_append, T.flat_len, T.flat_len, T.flat_len]
  rcases hk with rfl | rfl | rfl
  · refine ⟨by omega, by omega, ?_⟩
    rw [show ((base + p.size - 1 : Nat) : Int).toNat - base = p.size - 1 by omega, List.getElem?_append_left (by rw [List.length_append, later_len, later_len]; omega), List.getElem?_append_left (by rw [later_len]; omega)]
    exact later_last p _
  · refine ⟨by omega, by omega, ?_⟩
    rw [show ((base + p.size + q.size - 1 : Nat) : Int).toNat - base = p.size + (q.size - 1) by omega, List.getElem?_append_left (by rw [List.length_append, later_len, later_len]; omega), List.getElem?_append_right (by rw [later_len]; omega), later_len, Nat.add_sub_cancel_left]
    exact later_last q _
  · refine ⟨by omega, by omega, ?_⟩
    rw [show ((base + p.size + q.size + r.size - 1 : Nat) : Int).toNat - base = p.size + q.size + (r.size - 1) by omega, List.getElem?_append_right (by rw [List.length_append, later_len, later_len]; omega), List.length_append, later_len, later_len, Nat.add_sub_cancel_left]
    exact later_last r _
theorem parent_of (t : T) (ok : t.okB = true) {j : Nat} (hj : j + 1 < t.size) : ∃ p x, (t.flat 0)[p]? = some x ∧ (j : Int) ∈ kidsM x ∧ j < p := by
 have h := uses_flat t 0 j ok
 rw [if_pos ⟨Nat.zero_le _, by omega⟩] at h
 have hm : (j : Int) ∈ (t.flat 0).flatMap kidsM := List.count_pos_iff.1 (by omega)
 obtain ⟨x, hx, hk⟩ := List.mem_flatMap.1 hm
 obtain ⟨p, hp, e⟩ := List.mem_iff_getElem.1 hx
 have hx' : (t.flat 0)[p]? = some x := by rw [List.getElem?_eq_getElem hp, e]
 have g := (good_flat t 0 ok (Seg.self _) p x hx').ahead _ hk
 exact ⟨p, x, hx', hk, by omega⟩
def addT (acc : List Bytes) (s : Bytes) : List Bytes := if acc.contains s then acc else acc ++ [s]
def ddp (l : List Bytes) : List Bytes := l.foldl addT []
def visL (L : List Nd) (D : List Bool) : List Bytes := (L.zip D).filterMap fun p => if p.1.op = 3 ∧ p.2 = false then some p.1.name else none
def visT : T → Bool → List Bytes
 | .l0 x, b => if x.op = 3 ∧ b = false then [x.name] else []
 | .l1 x p, b => visT p (b || endB x.op) ++ (if x.op = 3 ∧ b = false then [x.name] else [])
 | .l2 x p q, b => visT p (b || endB x.op) ++ visT q (b || endB x.op) ++ (if x.op = 3 ∧ b = false then [x.name] else [])
 | .l3 x p q r, b => visT p (b || endB x.op) ++ visT q (b || endB x.op) ++ visT r (b || endB x.op) ++ (if x.op = 3 ∧ b = false then [x.name] else [])
theorem vis_two (L M : List Nd) (D E : List Bool) (h : L.length = D.length) : visL (L ++ M) (D ++ E) = visL L D ++ visL M E := by
 unfold visL; rw [List.zip_append h, List.filterMap_append]
theorem mkL_name (x : Lab) (l : List Int) : (mkL x l).name = x.name := by
 have := mkL_lab x l
 exact congrArg Lab.name this
theorem vis_one (x : Lab) (l : List Int) (b : Bool) : visL [mkL x l] [b] = if x.op = 3 ∧ b = false then [x.name] else [] := by
 unfold visL
 simp only [List.zip_cons_cons, List.zip_nil_right, List.filterMap_cons, List.filterMap_nil, mkL_op, mkL_name]
 split <;> simp_all
theorem vis_flat (t : T) : ∀ (base : Nat) (b : Bool), visL (t.flat base) (laterT t b) = visT t b := by
 induction t with
 | l0 x => intro base b; exact vis_one x [] b
 | l1 x p ih => intro base b; simp only [T.flat, laterT, visT]; rw [vis_two _ _ _ _ (by rw [later_len, T.flat_len]), ih, vis_one]
 | l2 x p q ih1 ih2 => intro base b; simp only [T.flat, laterT, visT]; rw [vis_two _ _ _ _ (by simp only [List.length_append, later_len, T.flat_len]), vis_two _ _ _ _ (by rw [later_len, T.flat_len]), ih1, ih2, vis_one]
 | l3 x p q r ih1 ih2 ih3 => intro base b; simp only [T.flat, laterT, visT]; rw [vis_two _ _ _ _ (by simp only [List.length_append, later_len, T.flat_len]), vis_two _ _ _ _ (by simp only [List.length_append, later_len, T.flat_len]), vis_two _ _ _ _ (by rw [later_len, T.flat_len]), ih1, ih2, ih3, vis_one]
theorem vis_true (t : T) : visT t true = [] := by
 induction t with
 | l0 x => simp [visT]
 | l1 x p ih => simp [visT, ih]
 | l2 x p q ih1 ih2 => simp [visT, ih1, ih2]
 | l3 x p q r ih1 ih2 ih3 => simp [visT, ih1, ih2, ih3]
theorem mem_addT (acc : List Bytes) (s x : Bytes) : x ∈ addT acc s ↔ x ∈ acc ∨ x = s := by
 unfold addT
 by_cases h : s ∈ acc
 · rw [if_pos (by simpa using h)]
   exact ⟨.inl, fun k => k.elim id (fun e => e ▸ h)⟩
 · rw [if_neg (by simpa using h)]; simp
theorem nodup_addT {acc : List Bytes} (h : acc.Nodup) (s : Bytes) : (addT acc s).Nodup := by
 unfold addT
 by_cases hs : s ∈ acc
 · rw [if_pos (by simpa using hs)]; exact h
 · rw [if_neg (by simpa using hs)]
   exact List.nodup_append.2 ⟨h, by simp, fun a ha b hb => by simp at hb; subst hb; exact fun e => hs (e ▸ ha)⟩
theorem fold_nodup (l : List Bytes) : ∀ acc, acc.Nodup → (l.foldl addT acc).Nodup := by
 induction l with
 | nil => intro acc h; exact h
 | cons s l ih => intro acc h; exact ih _ (nodup_addT h s)
theorem ddp_nodup (l : List Bytes) : (ddp l).Nodup := fold_nodup l [] List.nodup_nil
theorem fold_mem (l : List Bytes) : ∀ acc x, x ∈ l.foldl addT acc ↔ x ∈ acc ∨ x ∈ l := by
 induction l with
 | nil => intro acc x; simp
 | cons s l ih => intro acc x; rw [List.foldl_cons, ih, mem_addT]; simp [or_assoc]
theorem fold_step (acc b : List Bytes) (s : Bytes) : addT (acc ++ b.filter (fun s => !acc.contains s)) s = acc ++ (addT b s).filter (fun s => !acc.contains s) := by
 unfold addT
 by_cases ha : s ∈ acc
 · rw [if_pos (by simp [ha])]
   by_cases hb : s ∈ b
   · rw [if_pos (by simpa using hb)]
   · rw [if_neg (by simpa using hb), List.filter_append]; simp [ha]
 · by_cases hb : s ∈ b
   · rw [if_pos (by simp [ha, hb]), if_pos (by simpa using hb)]
   · rw [if_neg (by simp [ha, hb]), if_neg (by simpa using hb), List.filter_append]; simp [ha]
theorem ddp_mem (l : List Bytes) (x : Bytes) : x ∈ ddp l ↔ x ∈ l := by unfold ddp; rw [fold_mem]; simp
def needT (t : T) : List Bytes := ddp (visT t false)
theorem need_nodup (t : T) : (needT t).Nodup := ddp_nodup _
end Go.Proofs.YtdebhngpgabglaaGreat.Ca
/- The function moved with each of its three closures. Conditions: where a closure looks a number up, there is one. -/
namespace Go.Proofs.YtdebhngpgabglaaGreat.Tr
open Go.ChangeShapes Go.WideShapes Go.ChangeAt Go.RowKit
theorem cl40 (k x : Int) (p : Addr) (v : Value) (l : List Int) (w : World) (h : w.cell? p = some v) (hv : Ints w v l) (hk : 0 ≤ k) (hx : l[k.toNat]? = some x) : Calls Tryz.prog 41 #[.int .i64 k, .pointer (some p)] w fun e w' => e = .returned (.int .i64 x) ∧ w = w' := by
 obtain ⟨A, c, rfl, h1, h2, hA⟩ := hv
 obtain ⟨g, o, rfl, hg, a0⟩ := hA _ _ hx
 have hl := (List.getElem?_eq_some_iff.1 hx).1
 obtain ⟨j, rfl⟩ := Int.eq_ofNat_of_zero_le hk
 simp only [Int.toNat_natCast] at a0 hl
 clear hA hx
 go_enter Tryz.func41, Tryz.ntmps41
 go_wp2
 go_ret
 exact ⟨rfl, rfl⟩
def toM (tf : Int → Int) (k : Int) : Int := if 0 ≤ k then tf k else k
set_option maxRecDepth 100000 in
set_option maxHeartbeats 3200000 in
theorem moved40 (o a b c n : Int) (s : ByteArray) (p : Addr) (v : Value) (l : List Int) (tf : Int → Int) (w : World) (hp : w.cell? p = some v) (hv : Ints w v l) (ha : 0 ≤ a → l[a.toNat]? = some (tf a)) (hb : 0 ≤ b → l[b.toNat]? = some (tf b)) (hc : 0 ≤ c → l[c.toNat]? = some (tf c)) : Calls Tryz.prog 40 #[.agg #[.int .i64 o, .int .i64 a, .int .i64 b, .int .i64 c, .int .i64 n, .string s], .func (.func 41) #[] #[.pointer (some p)]] w
 fun e w' => e = .returned (.agg #[.int .i64 o, .int .i64 (toM tf a), .int .i64 (toM tf b), .int .i64 (toM tf c), .int .i64 n, .string s]) ∧ Below w.heap.size w w' := by
 have hq := World.block_lt_of_cell? w _ hp
 have HP := Lib.hid hp
 clear hp
 have HV := Lib.hid hv
 have HA := Lib.hid ha
 have HB := Lib.hid hb
 have HC := Lib.hid hc
 clear hv ha hb hc
 by_cases h1 : 0 ≤ a <;> by_cases h2 : 0 ≤ b <;> by_cases h3 : 0 ≤ c
 all_goals
  unfold toM
  first | rw [if_pos h1] | rw [if_neg h1]
  first | rw [if_pos h2] | rw [if_neg h2]
  first | rw [if_pos h3] | rw [if_neg h3]
  go_enter Tryz.func40, Tryz.ntmps40
  repeat (go_wp2_with fail; (with_reducible refine (cl40 _ (tf _) p v l _ (by exact (Below.cell (B := w.heap.size) (w := w) (by (repeat (first | with_reducible refine Below.setCell ?_ (by simp) _ | with_reducible refine Below.alloc ?_ (by simp) _ | exact Below.refl _ _))) hq).trans HP.out) (by exact HV.out.below (B := w.heap.size) (by (repeat (first | with_reducible refine Below.setCell ?_ (by simp) _ | with_reducible refine Below.alloc ?_ (by simp) _ | exact Below.refl _ _))) (Nat.le_refl _)) (by assumption) (by first | exact HA.out (by assumption) | exact HB.out (by assumption) | exact HC.out (by assumption))).mono ?_); rintro e w' ⟨rfl, rfl⟩)
  go_wp2_with fail
  refine bodyPost_ret (v := .agg #[.int .i64 o, .int .i64 _, .int .i64 _, .int .i64 _, .int .i64 n, .string s]) ?_ rfl ⟨rfl, ?_⟩
  · simp [results, Tryz.results40, go_sem]
  · (repeat (first | with_reducible refine Below.setCell ?_ (by simp) _ | with_reducible refine Below.alloc ?_ (by simp) _ | exact Below.refl _ _))
end Go.Proofs.YtdebhngpgabglaaGreat.Tr
/- What the closure of Sub works on and leaves, and how one operand more and the node itself are laid. Conditions: the expression may be. -/
namespace Go.Proofs.YtdebhngpgabglaaGreat.Tr
open Go.ChangeShapes Go.WideShapes Go.ChangeAt Go.RowKit
structure Lay (W0 : World) (ev : Value) (e : List Nd) (E X : Nat) (w : World) (ov : Value) (out : List Nd) (pos : List Int) : Prop where
 base : W0.heap.size ≤ E
 hX : X ≤ E
 below : Below W0.heap.size W0 w
 exp : w.heap[X]? = some (.cells #[ev] 23 (0, 0))
 res : w.heap[E + 1]? = some (.cells #[ov] 23 (0, 0))
 row : w.ownsRow (E + 2) 3 1 (.slice (some ⟨E + 2, 0, none⟩) e.length e.length) e.length (intsOf pos)
 lst : w.heap[E + 3]? = some (.cells #[.slice (some ⟨E + 2, 0, none⟩) e.length e.length] 31 (0, 0))
 fn : w.heap[E + 4]? = some (.cells #[.func (.func 39) #[] #[.pointer (some ⟨X, 0, none⟩), .pointer (some ⟨E + 4, 0, none⟩), .pointer (some ⟨E + 1, 0, none⟩), .pointer (some ⟨E + 3, 0, none⟩)]] 90 (0, 0))
 own : w.ownsRow (E + 5) 59 6 ov out.length (ndsOf out)
 len : pos.length = e.length
theorem Lay.kept {W0 w w' : World} {ev ov : Value} {e out : List Nd} {E X : Nat} {pos : List Int} (h : Lay W0 ev e E X w ov out pos) (hb : Below w.heap.size w w') : Lay W0 ev e E X w' ov out pos := by
 have h1 := lt_of_block h.exp
 have h4 := lt_of_block h.fn
 have h0 := h.base
 refine ⟨h.base, h.hX, h.below.trans (hb.mono (by omega)), ?_, ?_, own_below h.row hb, ?_, ?_, own_below h.own hb, h.len⟩
 · rw [hb.block _ h1]; exact h.exp
 · rw [hb.block _ (by omega)]; exact h.res
 · rw [hb.block _ (by omega)]; exact h.lst
 · rw [hb.block _ h4]; exact h.fn
theorem Lay.put {W0 w : World} {ev ov : Value} {e out : List Nd} {E X : Nat} {pos : List Int} (h : Lay W0 ev e E X w ov out pos) (i : Nat) (v : Int) : Lay W0 ev e E X (w.setCell ⟨E + 2, i, none⟩ (.int .i64 v)) ov out (pos.set i v) := by
 have h0 := h.base
 have hx := h.hX
 refine ⟨h.base, h.hX, h.below.setCell (by show _ ≤ E + 2; omega) _, ?_, ?_, ?_, ?_, ?_, ?_, by rw [List.length_set]; exact h.len⟩
 · rw [Below.heap_setCell _ _ _ _ (by show X ≠ E + 2; omega)]; exact h.exp
 · rw [Below.heap_setCell _ _ _ _ (by simp)]; exact h.res
 · rw [intsOf_set]; exact (h.row.stored i (.int .i64 v)).1
 · rw [Below.heap_setCell _ _ _ _ (by simp)]; exact h.lst
 · rw [Below.heap_setCell _ _ _ _ (by simp)]; exact h.fn
 · exact ownsRow_setCell_below h.own (by simp) _
theorem Lay.ints {W0 w : World} {ev ov : Value} {e out : List Nd} {E X : Nat} {pos : List Int} (h : Lay W0 ev e E X w ov out pos) : Ints w (.slice (some ⟨E + 2, 0, none⟩) e.length e.length) pos := by
 have := h.row
 rw [← h.len] at this ⊢
 exact Ints.of_own this
theorem Lay.moved {W0 w w4 : World} {ev ov : Value} {e out : List Nd} {E X : Nat} {pos : List Int} (h : Lay W0 ev e E X w ov out pos) (hb : Below w.heap.size w.drew w4) :
 w.heap.size ≤ w4.heap.size ∧ w4.cell? ⟨E + 1, 0, none⟩ = some ov ∧ w4.heap[E + 1]? = some (.cells #[ov] 23 (0, 0)) ∧ w4.ownsRow (E + 5) 59 6 ov out.length (ndsOf out) ∧ E + 5 ≤ w4.heap.size := by
 have h4 := lt_of_block h.fn
 have hz : w.heap.size ≤ w4.heap.size := hb.size
 have r4 : w4.heap[E + 1]? = some (.cells #[ov] 23 (0, 0)) := (hb.block _ (by omega)).trans h.res
 exact ⟨hz, cell_of_one r4, r4, own_below (w := w) h.own { os := hb.os, tape := hb.tape, output := hb.output, size := hb.size, block := hb.block }, by omega⟩
theorem grown_one {w4 w5 : World} {E : Nat} {ov : Value} {o : Obj} {n : Nat} {xs : List Value} (own4 : w4.ownsRow (E + 5) 59 6 ov n xs) (r4 : w4.heap[E + 1]? = some (.cells #[ov] 23 (0, 0))) (hz : E + 5 ≤ w4.heap.size) (hg : (w4.alloc o).grownBy w5 ov.ownBlock) :
 w5.heap[E + 1]? = some (.cells #[ov] 23 (0, 0)) := by
 have e5 := hg.block (E + 1) (by simp; omega) (fun h => by have := own4.lt _ h.symm; omega)
 rw [Below.heap_alloc _ _ _ (by omega), r4] at e5
 exact e5
def LayPost (W0 : World) (ev : Value) (e : List Nd) (E X : Nat) (w : World) (ov : Value) (out : List Nd) (pos : List Int) (i : Nat) (r : Ending) (w' : World) : Prop :=
 ∃ ov' pos', r = .returned (.tuple #[]) ∧ Lay W0 ev e E X w' ov' (out ++ (tree e i).flat out.length) pos' ∧
  pos'[i]? = some ((out.length + (tree e i).size - 1 : Nat) : Int) ∧ (∀ j : Nat, j ∉ desc e i → pos'[j]? = pos[j]?) ∧
  w.heap.size ≤ w'.heap.size ∧ (∀ b, ov'.ownBlock = some b → ov.ownBlock = some b ∨ w.heap.size ≤ b) ∧
  ∀ p : Addr, p.block < w.heap.size → p.block ≠ E + 1 → p.block ≠ E + 2 → ov.ownBlock ≠ some p.block → w'.cell? p = w.cell? p
theorem moved_mk (x : Nd) (L : List Int) (tf : Int → Int) (h : x = mkL x.lab L) (hL : ∀ k ∈ L, 0 ≤ k) :
 (⟨x.op, toM tf x.a, toM tf x.b, toM tf x.c, x.n, x.name⟩ : Nd) = mkL x.lab (L.map tf) := by
 obtain ⟨o, a, b, c, n, s⟩ := x
 have m1 : toM tf (-1) = -1 := by unfold toM; rw [if_neg (by omega)]
 have m0 : ∀ k, 0 ≤ k → toM tf k = tf k := fun k hk => by unfold toM; rw [if_pos hk]
 simp only [Nd.lab] at h ⊢
 match L with
 | [] =>
  simp only [mkL, Nd.mk.injEq, true_and, and_true] at h
  obtain ⟨rfl, rfl, rfl⟩ := h
  simp [mkL, m1]
 | [i] =>
  simp only [mkL, Nd.mk.injEq, true_and, and_true] at h
  obtain ⟨rfl, rfl, rfl⟩ := h
  simp [mkL, m1, m0 a (hL a (by simp))]
 | [i, j] =>
  simp only [mkL] at h
  by_cases ho : o = 28
  · subst ho
    simp only [if_true, Nd.mk.injEq, true_and, and_true] at h
    obtain ⟨rfl, rfl, rfl⟩ := h
    simp [mkL, m1, m0 a (hL a (by simp)), m0 b (hL b (by simp))]
  · simp only [ho, if_false, Nd.mk.injEq, true_and, and_true] at h
    obtain ⟨rfl, rfl, rfl⟩ := h
    simp [mkL, ho, m1, m0 a (hL a (by simp)), m0 b (hL b (by simp))]
 | i :: j :: k :: r =>
  simp only [mkL, Nd.mk.injEq, true_and, and_true] at h
  obtain ⟨rfl, rfl, rfl⟩ := h
  simp [mkL, m0 a (hL a (by simp)), m0 b (hL b (by simp)), m0 c (hL c (by simp))]
structure LayRel (W0 : World) (ev : Value) (e : List Nd) (E X : Nat) (w w2 : World) (ov : Value) (out : List Nd) (pos : List Int) (L : List Int) (j : Nat) (wr : World) (ov' : Value) (pos' : List Int) : Prop where
 le : j ≤ L.length
 lay : Lay W0 ev e E X wr ov' (out ++ flats e out.length (L.take j)) pos'
 at_ : ∀ t q, t < j → L[t]? = some q → pos'[q.toNat]? = some (posOf e out.length L t)
 same : ∀ m : Nat, (∀ k ∈ L, m ∉ desc e k.toNat) → pos'[m]? = pos[m]?
 size : w2.heap.size ≤ wr.heap.size
 keep : ∀ p : Addr, w.heap.size ≤ p.block → p.block < w2.heap.size → wr.cell? p = w2.cell? p
 blk : ∀ b, ov'.ownBlock = some b → b < w.heap.size ∨ w2.heap.size ≤ b
 blk0 : ∀ b, ov'.ownBlock = some b → ov.ownBlock = some b ∨ w2.heap.size ≤ b
 frame : ∀ p : Addr, p.block < w.heap.size → p.block ≠ E + 1 → p.block ≠ E + 2 → ov.ownBlock ≠ some p.block → wr.cell? p = w.cell? p
theorem fields_in (x : Nd) (L : List Int) (h : x = mkL x.lab L) : (x.a ≠ -1 → x.a ∈ L) ∧ (x.b ≠ -1 → x.b ∈ L) ∧ (x.c ≠ -1 → x.c ∈ L) := by
 obtain ⟨o, a, b, c, n, s⟩ := x
 simp only [Nd.lab] at h ⊢
 match L with
 | [] =>
  simp only [mkL, Nd.mk.injEq, true_and, and_true] at h
  obtain ⟨rfl, rfl, rfl⟩ := h; simp
 | [i] =>
  simp only [mkL, Nd.mk.injEq, true_and, and_true] at h
  obtain ⟨rfl, rfl, rfl⟩ := h; simp
 | [i, j] =>
  simp only [mkL] at h
  by_cases ho : o = 28
  · subst ho
    simp only [if_true, Nd.mk.injEq, true_and, and_true] at h
    obtain ⟨rfl, rfl, rfl⟩ := h; simp
  · simp only [ho, if_false, Nd.mk.injEq, true_and, and_true] at h
    obtain ⟨rfl, rfl, rfl⟩ := h; simp
 | i :: j :: k :: r =>
  simp only [mkL, Nd.mk.injEq, true_and, and_true] at h
  obtain ⟨rfl, rfl, rfl⟩ := h; simp
theorem nodup_two {l : List Int} (h : l.Nodup) {i j : Nat} {a : Int} (hij : i < j) (h1 : l[i]? = some a) (h2 : l[j]? = some a) : False := by
 obtain ⟨hi, e1⟩ := List.getElem?_eq_some_iff.1 h1
 obtain ⟨hj, e2⟩ := List.getElem?_eq_some_iff.1 h2
 exact (List.pairwise_iff_getElem.1 h) i j hi hj hij (e1.trans e2.symm)
theorem rel_step {W0 : World} {ev : Value} {e : List Nd} {E X : Nat} {w w2 : World} {ov : Value} {out : List Nd} {pos : List Int} {L : List Int} {j : Nat} {wr : World} {ov' : Value} {pos' : List Int} {i m : Nat} {x : Nd} {w' : World} {r : Ending}
 (hm : May e) (hx : e[i]? = some x) (hL : kidsM x = L) (hj : L[j]? = some (m : Int)) (hE : E + 4 < w.heap.size) (hw : w.heap.size ≤ w2.heap.size) (h : LayRel W0 ev e E X w w2 ov out pos L j wr ov' pos')
 (hp : LayPost W0 ev e E X wr ov' (out ++ flats e out.length (L.take j)) pos' m r w') :
 ∃ ov'' pos'', r = .returned (.tuple #[]) ∧ LayRel W0 ev e E X w w2 ov out pos L (j + 1) w' ov'' pos'' := by
 obtain ⟨ov'', pos'', hr, hlay, hat, hsame, hsize, hblk, hfr⟩ := hp
 have hjl := (List.getElem?_eq_some_iff.1 hj).1
 have hmem : (m : Int) ∈ kidsM x := by rw [hL]; exact List.mem_of_getElem? hj
 have htk : L.take (j + 1) = L.take j ++ [(m : Int)] := by rw [List.take_add_one, hj]; rfl
 have hlen : (out ++ flats e out.length (L.take j)).length = out.length + upTo e (L.take j) := by rw [List.length_append, flats_len]
 have hmt : ((m : Int)).toNat = m := Int.toNat_natCast m
 refine ⟨ov'', pos'', hr, by omega, ?_, ?_, ?_, by have := h.size; omega, ?_, ?_, ?_, ?_⟩
 · rw [hlen, List.append_assoc] at hlay
   rw [htk, flats_snoc, hmt]; exact hlay
 · intro t q ht hq
   by_cases htj : t = j
   · subst htj
     have : q = (m : Int) := Option.some.inj (hq.symm.trans hj)
     subst this
     rw [hmt, hat, hlen]
     unfold posOf
     rw [htk, upTo_snoc, hmt]
     congr 3
     omega
   · rw [hsame q.toNat ?_]
     · exact h.at_ t q (by omega) hq
     · intro hd
       have hqm : q ∈ kidsM x := by rw [hL]; exact List.mem_of_getElem? hq
       have hql := hm.ahead i x hx q hqm
       have hil := (List.getElem?_eq_some_iff.1 hx).1
       have hne : q ≠ (m : Int) := by
        intro e1
        subst e1
        have hnd := once_nodup hm.once hm.ahead hx
        rw [hL] at hnd
        have htl := (List.getElem?_eq_some_iff.1 hq).1
        exact nodup_two hnd (show t < j by omega) hq hj
       exact apart hm.once hm.ahead hx hqm hmem hne q.toNat (desc_self hm.ahead (by omega)) (by rw [hmt]; exact hd)
 · intro p hp
   rw [hsame p (by have := hp (m : Int) (List.mem_of_getElem? hj); rwa [hmt] at this)]
   exact h.same p hp
 · intro p hp1 hp2
   have hs := h.size
   rw [hfr p (by omega) (by omega) (by omega) (fun hb => by have := h.blk _ hb; omega)]
   exact h.keep p hp1 hp2
 · intro b hb
   rcases hblk b hb with h1 | h1
   · exact h.blk b h1
   · have := h.size; exact .inr (by omega)
 · intro b hb
   rcases hblk b hb with h1 | h1
   · exact h.blk0 b h1
   · have := h.size; exact .inr (by omega)
 · intro p hp1 hp2 hp3 hp4
   have hs := h.size
   rw [hfr p (by omega) hp2 hp3 (fun hb => by
    rcases h.blk0 _ hb with h1 | h1
    · exact hp4 h1
    · omega)]
   exact h.frame p hp1 hp2 hp3 hp4
theorem lay_end {W0 : World} {ev : Value} {e : List Nd} {E X : Nat} {w w2 wr w3 w4 w5 : World} {ov ov' : Value} {out : List Nd} {pos pos' : List Int} {L : List Int} {i N gg cap : Nat} {x : Nd} {tf : Int → Int} {o : Obj} {ov2 : Value}
 (hm : May e) (hx : e[i]? = some x) (hL : kidsM x = L) (hE : E + 4 < w.heap.size) (hw : w.heap.size ≤ w2.heap.size) (hrel : LayRel W0 ev e E X w w2 ov out pos L L.length wr ov' pos')
 (hN : (out ++ flats e out.length L).length = N) (hput : Lay W0 ev e E X w3 ov' (out ++ flats e out.length L) (pos'.set i ((N : Nat) : Int))) (hw3 : w3 = wr.setCell ⟨E + 2, i, none⟩ (.int .i64 (N : Int)))
 (htf : ∀ k ∈ L, (pos'.set i ((N : Nat) : Int))[k.toNat]? = some (tf k)) (hb4 : Below w3.heap.size w3.drew w4) (hov2 : ov2.ownBlock = ov'.ownBlock) (hg : (w4.alloc o).grownBy w5 ov2.ownBlock)
 (hown : w5.ownsRow (E + 5) 59 6 (.slice (some ⟨gg, 0, none⟩) (N + 1) cap) (N + 1) (ndsOf (out ++ flats e out.length L) ++ ndCells ⟨x.op, toM tf x.a, toM tf x.b, toM tf x.c, x.n, x.name⟩))
 (hat : ov2.ownBlock = some gg ∨ gg = w4.heap.size + 1) :
 LayPost W0 ev e E X w ov out pos i (.returned (.tuple #[])) (w5.setCell ⟨E + 1, 0, none⟩ (.slice (some ⟨gg, 0, none⟩) (N + 1) cap)) := by
 rw [hov2] at hg hat
 have hil := (List.getElem?_eq_some_iff.1 hx).1
 have hs3 : w3.heap.size = wr.heap.size := by rw [hw3]; simp
 have hz4 : w3.heap.size ≤ w4.heap.size := hb4.size
 have hz5 := hg.size
 simp at hz5
 have hr2 := hrel.size
 have hE3 := lt_of_block hput.fn
 have K : ∀ b, b < w3.heap.size → ov'.ownBlock ≠ some b → w5.heap[b]? = w3.heap[b]? := fun b hb hn => by
  rw [hg.block b (by simp; omega) (fun h => hn h.symm), Below.heap_alloc _ _ _ (by omega)]
  exact hb4.block b hb
 have low : ∀ b, b < E + 5 → ov'.ownBlock ≠ some b := fun b hb h => by have := hput.own.lt b h; omega
 have hNU : N = out.length + upTo e L := by rw [← hN, List.length_append, flats_len]
 have hsz := tree_size e hm.ahead i x hx
 rw [hL] at hsz
 have hmap : L.map tf = (List.range L.length).map (posOf e out.length L) := by
  apply List.ext_getElem?
  intro t
  rw [List.getElem?_map, List.getElem?_map]
  by_cases ht : t < L.length
  · rw [List.getElem?_range ht]
    have hq : L[t]? = some L[t] := List.getElem?_eq_getElem ht
    rw [hq]
    have hmem := List.mem_of_getElem? hq
    have h1 := htf _ hmem
    have h2 := hm.ahead i x hx L[t] (by rw [hL]; exact hmem)
    rw [List.getElem?_set_ne (by omega), hrel.at_ t _ ht hq] at h1
    exact h1.symm
  · rw [List.getElem?_eq_none (by omega), List.getElem?_eq_none (by simp; omega)]; rfl
 have hnode : (⟨x.op, toM tf x.a, toM tf x.b, toM tf x.c, x.n, x.name⟩ : Nd) = mkL x.lab ((List.range L.length).map (posOf e out.length L)) := by
  rw [moved_mk x L tf (by rw [← hL]; exact (hm.node i x hx).bare) (fun k hk => (hm.ahead i x hx k (by rw [hL]; exact hk)).1), hmap]
 have hflat : out ++ (tree e i).flat out.length = (out ++ flats e out.length L) ++ [⟨x.op, toM tf x.a, toM tf x.b, toM tf x.c, x.n, x.name⟩] := by
  rw [tree_flat e hm.ahead i x hx, hL, hnode, List.append_assoc]
 refine ⟨.slice (some ⟨gg, 0, none⟩) (N + 1) cap, pos'.set i ((N : Nat) : Int), rfl, ⟨hput.base, hput.hX, ?_, ?_, ?_, ?_, ?_, ?_, ?_, hput.len⟩, ?_, ?_, ?_, ?_, ?_⟩
 · have h0 := hput.base
   have h1 : Below W0.heap.size W0 w4 := hput.below.drew.trans (hb4.mono (by omega))
   exact ((h1.alloc (by omega) _).grown hg (by simp; omega) (fun b hb => by have := hput.own.lt b hb; omega)).setCell (by show _ ≤ E + 1; omega) _
 · have hx := hput.hX
   rw [Below.heap_setCell _ _ _ _ (by show X ≠ E + 1; omega), K _ (by omega) (low _ (by omega))]; exact hput.exp
 · exact one_setCell ((K _ (by omega) (low _ (by omega))).trans hput.res)
 · refine own_block hput.row (fun g hgb => ?_)
   have : g = E + 2 := by simp [Value.ownBlock] at hgb; omega
   subst this
   rw [Below.heap_setCell _ _ _ _ (by simp), K _ (by omega) (low _ (by omega))]
 · rw [Below.heap_setCell _ _ _ _ (by simp), K _ (by omega) (low _ (by omega))]; exact hput.lst
 · rw [Below.heap_setCell _ _ _ _ (by simp), K _ (by omega) (low _ (by omega))]; exact hput.fn
 · rw [hflat, nds_snoc, List.length_append, hN]
   exact ownsRow_setCell_below hown (by simp) _
 · rw [List.getElem?_set_self (by have := hput.len; rw [List.length_set] at this; omega)]
   congr 2; omega
 · intro j hj
   have hji : i ≠ j := fun h => hj (by rw [← h]; exact desc_self hm.ahead hil)
   rw [List.getElem?_set_ne hji]
   exact hrel.same j (fun k hk hd => hj (desc_kid hm.ahead hx (by rw [hL]; exact hk) hd))
 · simp; omega
 · intro b hb
   have hb' : gg = b := by simpa [Value.ownBlock] using hb
   subst hb'
   rcases hat with h | h
   · rcases hrel.blk0 _ h with h1 | h1
     · exact .inl h1
     · exact .inr (by omega)
   · exact .inr (by omega)
 · intro p hp1 hp2 hp3 hp4
   have hn : ov'.ownBlock ≠ some p.block := fun h => by
    rcases hrel.blk0 _ h with h1 | h1
    · exact hp4 h1
    · omega
   rw [World.cell?_setCell_other _ _ _ _ (fun h => hp2 (by rw [← h])), World.cell?_of_block (w := w3) (K p.block (by omega) hn), hw3, World.cell?_setCell_other _ _ _ _ (fun h => hp3 (by rw [← h]))]
   exact hrel.frame p hp1 hp2 hp3 hp4
end Go.Proofs.YtdebhngpgabglaaGreat.Tr
