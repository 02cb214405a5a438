/- What two expressions that may be are joined to: whether it may be, and its operands. Conditions: none. -/
import Derived.Test.YtlhcajhgbkgjbaaDoorKb16
import Derived.Test.YtlhcajhgbkgjbaaDoorRa01
import Derived.Test.YtlhcajhgbkgjbaaDoorRa18
set_option linter.unusedVariables false
set_option linter.unusedSimpArgs false
namespace Go.Proofs.YtlhcajhgbkgjbaaDoor.Tr
open Go.RowKit
def kbQ (x : Lab) (a b : List Nd) : List Nd := a ++ b.map (onNd (a.length : Int)) ++ [mkL x [(a.length : Int) - 1, (a.length : Int) + (b.length : Int) - 1]]
theorem kjh (x : Lab) (a b : List Nd) : (kbQ x a b).length = a.length + b.length + 1 := by unfold kbQ; simp; omega
theorem kgi {e : List Nd} {i : Nat} {x : Nd} (h : Good e i x) (f : Nat) (hs : i + f <= 1000000000) : ka6 (onNd (f : Int) x) = (ka6 x).map (fun k => k + (f : Int)) /\ onNd (f : Int) x = mkL x.lab ((ka6 x).map (fun k => k + (f : Int))) := by
  have e1 : onNd (f : Int) x = mkL x.lab ((ka6 x).map (fun k => k + (f : Int))) := by
    have h2 : onNd (f : Int) x = mkL x.lab ((ka6 x).map (onM (f : Int))) := by
      conv => lhs; rw [h.bare]
      rw [keX]
    rw [h2]
    congr 1
    apply List.map_congr_left
    intro k hk
    have := h.ahead k hk
    obtain ⟨j, rfl⟩ := Int.eq_ofNat_of_zero_le this.1
    rw [kdB _ _ (by omega)]; omega
  refine ⟨?_, e1⟩
  rw [e1]
  exact kbo x.lab _ (by rw [List.length_map]; exact ke6 x) (fun k hk => by
    rw [List.mem_map] at hk
    obtain ⟨j, hj, rfl⟩ := hk
    have := h.ahead j hj
    omega)
theorem kh2 (x : Lab) (a b : List Nd) {i : Nat} (hi : i < a.length) : (kbQ x a b)[i]? = a[i]? := by
  unfold kbQ; rw [List.append_assoc, List.getElem?_append_left hi]
theorem kga (x : Lab) (a b : List Nd) {i : Nat} (hi : i < b.length) : (kbQ x a b)[a.length + i]? = (b[i]?).map (onNd (a.length : Int)) := by
  unfold kbQ
  rw [List.append_assoc, List.getElem?_append_right (by omega), Nat.add_sub_cancel_left, List.getElem?_append_left (by simpa using hi), List.getElem?_map]
theorem kh3 (x : Lab) (a b : List Nd) : (kbQ x a b)[a.length + b.length]? = some (mkL x [(a.length : Int) - 1, (a.length : Int) + (b.length : Int) - 1]) := by
  unfold kbQ; rw [List.getElem?_append_right (by simp)]; simp
theorem pair_cases (x : Lab) (a b : List Nd) {i : Nat} {n : Nd} (h : (kbQ x a b)[i]? = some n) :
    (i < a.length /\ a[i]? = some n) ∨ (∃ j m, i = a.length + j /\ j < b.length /\ b[j]? = some m /\ n = onNd (a.length : Int) m) ∨ (i = a.length + b.length /\ n = mkL x [(a.length : Int) - 1, (a.length : Int) + (b.length : Int) - 1]) := by
  have hl := (List.getElem?_eq_some_iff.1 h).1
  rw [kjh] at hl
  by_cases h1 : i < a.length
  · exact .inl ⟨h1, by rw [kh2 x a b h1] at h; exact h⟩
  by_cases h2 : i < a.length + b.length
  · refine .inr (.inl ⟨i - a.length, b[i - a.length]'(by omega), by omega, by omega, List.getElem?_eq_getElem (by omega), ?_⟩)
    have := kga x a b (i := i - a.length) (by omega)
    rw [show a.length + (i - a.length) = i by omega, h, List.getElem?_eq_getElem (by omega)] at this
    simpa using this
  · have : i = a.length + b.length := by omega
    subst this
    rw [kh3] at h
    exact .inr (.inr ⟨rfl, by simpa using h.symm⟩)
theorem kjg (x : Lab) (a b : List Nd) {k : Int} (h0 : 0 <= k) (h1 : k < (a.length : Int)) : opAt (kbQ x a b) k = opAt a k := by
  unfold opAt; rw [List.getD, List.getD, kh2 x a b (by omega)]
theorem kjf (x : Lab) (a b : List Nd) {k : Int} (h0 : 0 <= k) (h1 : k < (b.length : Int)) : opAt (kbQ x a b) (k + (a.length : Int)) = opAt b k := by
  unfold opAt
  rw [List.getD, List.getD, show (k + (a.length : Int)).toNat = a.length + k.toNat by omega, kga x a b (by omega)]
  cases h : b[k.toNat]? with
  | none => rw [List.getElem?_eq_none_iff] at h; omega
  | some m => rfl
theorem fits2 {x : Lab} (hbin : ka8 x.op = true) : fitsB x.op 2 = true /\ x.op ≠ 27 /\ x.op ≠ 28 := by
  have h : 6 <= x.op /\ x.op <= 20 := by simpa [ka8] using hbin
  have h27 : x.op ≠ 27 := by omega
  have h28 : x.op ≠ 28 := by omega
  have h26 : x.op ≠ 26 := by omega
  have hu : kab x.op = false := by
    unfold kab
    simp only [Bool.or_eq_false_iff, beq_eq_false_iff_ne]; omega
  exact ⟨by unfold fitsB; simp [h26, h27, h28, hu, hbin], h27, h28⟩
theorem pair_good {x : Lab} {a b : List Nd} (ha : May a) (hb : May b) (hx : ka7 x = true) (hbin : ka8 x.op = true) {i : Nat} {n : Nd} (h : (kbQ x a b)[i]? = some n) : Good (kbQ x a b) i n := by
  have hla := ha.le
  have hlb := hb.le
  have hpa := ha.pos
  have hpb := hb.pos
  rcases pair_cases x a b h with ⟨h1, h2⟩ | ⟨j, m, rfl, hj, h2, rfl⟩ | ⟨rfl, rfl⟩
  · have g := ha.node i n h2
    refine ⟨g.plain, g.bare, g.ahead, ?_⟩
    rw [List.map_congr_left (g := opAt a) (fun k hk => kjg x a b (g.ahead k hk).1 (by have := (g.ahead k hk).2; omega))]
    exact g.args
  · have g := hb.node j m h2
    obtain ⟨k1, k2⟩ := kgi g a.length (by omega)
    refine ⟨g.plain, by rw [k1]; exact k2, ?_, ?_⟩
    · rw [k1]
      intro k hk
      rw [List.mem_map] at hk
      obtain ⟨q, hq, rfl⟩ := hk
      have := g.ahead q hq
      omega
    · rw [k1, List.map_map]
      rw [List.map_congr_left (f := opAt (kbQ x a b) ∘ fun k => k + (a.length : Int)) (g := opAt b) (fun k hk => kjf x a b (g.ahead k hk).1 (by have := (g.ahead k hk).2; omega))]
      exact g.args
  · obtain ⟨f2, f27, f28⟩ := fits2 hbin
    refine kf8 hx f2 (by intro k hk; simp at hk; omega) ?_
    simp only [List.map_cons, List.map_nil]
    have o1 : opAt (kbQ x a b) ((a.length : Int) - 1) ≠ 28 := by
      rw [kjg x a b (by omega) (by omega)]
      have := ha.last
      unfold opAt
      rwa [show ((a.length : Int) - 1).toNat = a.length - 1 by omega]
    have o2 : opAt (kbQ x a b) ((a.length : Int) + (b.length : Int) - 1) ≠ 28 := by
      rw [show (a.length : Int) + (b.length : Int) - 1 = ((b.length : Int) - 1) + (a.length : Int) by omega, kjf x a b (by omega) (by omega)]
      have := hb.last
      unfold opAt
      rwa [show ((b.length : Int) - 1).toNat = b.length - 1 by omega]
    have q1 : (opAt (kbQ x a b) ((a.length : Int) - 1) == 28) = false := by rw [beq_eq_false_iff_ne]; exact o1
    have q2 : (opAt (kbQ x a b) ((a.length : Int) + (b.length : Int) - 1) == 28) = false := by rw [beq_eq_false_iff_ne]; exact o2
    have q3 : (x.op == 27) = false := by rw [beq_eq_false_iff_ne]; exact f27
    have q4 : (x.op == 28) = false := by rw [beq_eq_false_iff_ne]; exact f28
    simp [argsL, q1, q2, q3, q4]
theorem kfC {x : Lab} {a b : List Nd} (ha : May a) (hb : May b) (hx : ka7 x = true) (hbin : ka8 x.op = true) : Ahead (kbQ x a b) := fun i n hn => (pair_good ha hb hx hbin hn).ahead
theorem pair_treeR {x : Lab} {a b : List Nd} (ha : May a) (hb : May b) (hx : ka7 x = true) (hbin : ka8 x.op = true) : ∀ i, i < b.length -> tree (kbQ x a b) (a.length + i) = tree b i := by
  have hla := ha.le
  have hlb := hb.le
  intro i
  induction i using Nat.strongRecOn with
  | ind i ih =>
    intro hi
    have hn := kba hi
    have hm : (kbQ x a b)[a.length + i]? = some (onNd (a.length : Int) (b.getD i default)) := by rw [kga x a b hi, hn]; rfl
    have g := hb.node i _ hn
    rw [kbp (kfC ha hb hx hbin) hm, kbp hb.ahead hn, (kgi g a.length (by omega)).1, List.map_map]
    congr 1
    apply List.map_congr_left
    intro k hk
    have hk2 := g.ahead k hk
    have := ih k.toNat (by omega) (by omega)
    rw [<- this]
    show tree _ (k + (a.length : Int)).toNat = _
    congr 1; omega
theorem pair_treeL {x : Lab} {a b : List Nd} (ha : May a) (hb : May b) (hx : ka7 x = true) (hbin : ka8 x.op = true) {i : Nat} (hi : i < a.length) : tree (kbQ x a b) i = tree a i := by
  have h := ha.ahead
  unfold kbQ; rw [List.append_assoc]; exact kcN h hi
theorem pair_root {x : Lab} {a b : List Nd} (ha : May a) (hb : May b) (hx : ka7 x = true) (hbin : ka8 x.op = true) : root (kbQ x a b) = .l2 x (root a) (root b) := by
  have hpa := ha.pos
  have hpb := hb.pos
  obtain ⟨f2, f27, f28⟩ := fits2 hbin
  unfold root
  rw [kjh, Nat.add_sub_cancel, kbp (kfC ha hb hx hbin) (kh3 x a b), kbS, kbo x [_, _] f2 (by intro k hk; simp at hk; omega)]
  simp only [List.map_cons, List.map_nil, mkT]
  rw [show ((a.length : Int) - 1).toNat = a.length - 1 by omega, show ((a.length : Int) + (b.length : Int) - 1).toNat = a.length + (b.length - 1) by omega, pair_treeL ha hb hx hbin (by omega), pair_treeR ha hb hx hbin _ (by omega)]
end Go.Proofs.YtlhcajhgbkgjbaaDoor.Tr

/- What two expressions are joined to, and one under a Pre, and from which instant on these are; parts. Conditions: the expressions may be. -/
namespace Go.Proofs.YtlhcajhgbkgjbaaDoor.In
open Go.RowKit Tr
theorem on_zero {e : List Nd} {i : Nat} {x : Nd} (h : Tr.Good e i x) (hi : i <= 1000000) : onNd 0 x = x := by
  have := (kgi h 0 (by omega)).2
  rw [Int.natCast_zero] at this
  rw [this]
  conv => rhs; rw [h.bare]
  congr 1
  conv => rhs; rw [<- List.map_id (ka6 x)]
  apply List.map_congr_left
  intro k _
  simp
theorem kgf {e : List Nd} (h : May e) : e.map (onNd 0) = e := by
  conv => rhs; rw [<- List.map_id e]
  apply List.map_congr_left
  intro x hx
  obtain ⟨i, hi⟩ := List.mem_iff_getElem?.1 hx
  have hl := h.le
  have := (List.getElem?_eq_some_iff.1 hi).1
  exact on_zero (h.node i x hi) (by omega)
theorem join_pair {a b : List Nd} (ha : May a) (hb : May b) (o : Int) (hbin : ka8 o = true) : kaa o 0 [] [a, b] = kbQ ⟨o, 0, []⟩ a b := by
  obtain ⟨f2, f27, f28⟩ := fits2 (x := ⟨o, 0, []⟩) hbin
  simp only at f27 f28
  have pa := ha.pos
  have pb := hb.pos
  have ea : a.isEmpty = false := by cases a with
    | nil => simp at pa
    | cons _ _ => rfl
  have eb : b.isEmpty = false := by cases b with
    | nil => simp at pb
    | cons _ _ => rfl
  have hk : (ka6 (kaX o 0 [] [])).length = 2 := by
    have hb' : 6 <= o /\ o <= 20 := by simpa [ka8] using hbin
    rw [ke0 _ hbin]; rfl
  unfold kaa
  rw [show [a, b].any List.isEmpty = false by simp [ea, eb], if_neg (by simp), if_neg f28, if_neg f27, if_pos (by rw [hk]; rfl)]
  show (kaR (kaR ([], []) a) b).1 ++ [kaX o 0 [] (kaR (kaR ([], []) a) b).2] = _
  unfold kaR kaM kbQ
  simp only [List.length_nil, Int.natCast_zero, List.nil_append, kgf ha, List.length_append, List.length_map]
  congr 1
  simp only [kaX, mkL, f28, if_false]
  simp
theorem plain_bin {o : Int} (hbin : ka8 o = true) : ka7 ⟨o, 0, []⟩ = true := by
  have h : 6 <= o /\ o <= 20 := by simpa [ka8] using hbin
  unfold ka7
  have h1 : o ≠ 1 := by omega
  have h2 : o ≠ 2 := by omega
  have h3 : o ≠ 3 := by omega
  have h25 : o ≠ 25 := by omega
  have h27 : o ≠ 27 := by omega
  simp [h1, h2, h3, h25, h27]; omega
end Go.Proofs.YtlhcajhgbkgjbaaDoor.In

/- The tree of what three expressions are joined to, where that may be. Conditions: the three may be, and what is made. -/
namespace Go.Proofs.YtlhcajhgbkgjbaaDoor.Ty
open Go.RowKit Tr
open Go.Proofs.YtlhcajhgbkgjbaaDoor.In (kgf)
theorem kfA {e b : List Nd} {f : Nat} (hA : Ahead e) (hb : Tr.May b) (hs : Seg e f (b.map (onNd (f : Int)))) (hf : f + b.length <= 1000000000) : ∀ i, i < b.length -> tree e (f + i) = tree b i := by
  intro i
  induction i using Nat.strongRecOn with
  | ind i ih =>
    intro hi
    have hn := kba hi
    have hm : e[f + i]? = some (onNd (f : Int) (b.getD i default)) := hs i _ (by rw [List.getElem?_map, hn]; rfl)
    have g := hb.node i _ hn
    rw [kbp hA hm, kbp hb.ahead hn, (kgi g f (by omega)).1, List.map_map]
    congr 1
    apply List.map_congr_left
    intro k hk
    have hk2 := g.ahead k hk
    have := ih k.toNat (by omega) (by omega)
    rw [<- this]
    show tree _ (k + (f : Int)).toNat = _
    congr 1; omega
theorem seg_mid (a s c : List Nd) : Seg (a ++ s ++ c) a.length s := fun j x hj => by
  have hl := (List.getElem?_eq_some_iff.1 hj).1
  rw [List.append_assoc, List.getElem?_append_right (by omega), Nat.add_sub_cancel_left, List.getElem?_append_left hl]; exact hj
def kcW (x : Lab) (a b c : List Nd) : List Nd := a ++ b.map (onNd (a.length : Int)) ++ c.map (onNd ((a.length + b.length : Nat) : Int)) ++ [mkL x [(a.length : Int) - 1, (a.length : Int) + (b.length : Int) - 1, (a.length : Int) + (b.length : Int) + (c.length : Int) - 1]]
theorem kfI {a b c : List Nd} (ha : Tr.May a) (hb : Tr.May b) (hc : Tr.May c) : kaa 26 0 [] [a, b, c] = kcW ⟨26, 0, []⟩ a b c := by
  have ne : ∀ {e : List Nd}, Tr.May e -> e.isEmpty = false := fun {e} h => by
    have := h.pos
    cases e with
    | nil => simp at this
    | cons _ _ => rfl
  have hk : (ka6 (kaX 26 0 [] [])).length = 3 := by decide
  unfold kaa
  rw [show [a, b, c].any List.isEmpty = false by simp [ne ha, ne hb, ne hc], if_neg (by simp), if_neg (by decide), if_neg (by decide), if_pos (by rw [hk]; rfl)]
  show (kaR (kaR (kaR ([], []) a) b) c).1 ++ [kaX 26 0 [] (kaR (kaR (kaR ([], []) a) b) c).2] = _
  unfold kaR kaM kcW
  simp only [List.length_nil, Int.natCast_zero, List.nil_append, kgf ha, List.length_append, List.length_map]
  congr 1
theorem kjP {a b c : List Nd} (ha : Tr.May a) (hb : Tr.May b) (hc : Tr.May c) (hm : Tr.May (kaa 26 0 [] [a, b, c])) : root (kaa 26 0 [] [a, b, c]) = .l3 ⟨26, 0, []⟩ (root a) (root b) (root c) := by
  rw [kfI ha hb hc] at hm ⊢
  have pa := ha.pos
  have pb := hb.pos
  have pc := hc.pos
  have la := ha.le
  have lb := hb.le
  have lc := hc.le
  have hA := hm.ahead
  have hlen : (kcW ⟨26, 0, []⟩ a b c).length = a.length + b.length + c.length + 1 := by unfold kcW; simp; omega
  have hlast : (kcW ⟨26, 0, []⟩ a b c)[a.length + b.length + c.length]? = some (mkL ⟨26, 0, []⟩ [(a.length : Int) - 1, (a.length : Int) + (b.length : Int) - 1, (a.length : Int) + (b.length : Int) + (c.length : Int) - 1]) := by
    unfold kcW
    rw [List.getElem?_append_right (by simp; omega), show a.length + b.length + c.length - (a ++ b.map (onNd (a.length : Int)) ++ c.map (onNd ((a.length + b.length : Nat) : Int))).length = 0 by simp; omega]
    rfl
  have s1 : ∀ i, i < a.length -> tree (kcW ⟨26, 0, []⟩ a b c) i = tree a i := fun i hi => by
    unfold kcW; rw [List.append_assoc, List.append_assoc]; exact kcN ha.ahead hi
  have s2 : ∀ i, i < b.length -> tree (kcW ⟨26, 0, []⟩ a b c) (a.length + i) = tree b i := kfA hA hb (by
    unfold kcW
    rw [List.append_assoc (a ++ _)]
    exact seg_mid a _ _) (by omega)
  have s3 : ∀ i, i < c.length -> tree (kcW ⟨26, 0, []⟩ a b c) (a.length + b.length + i) = tree c i := kfA hA hc (by
    have h := seg_mid (a ++ b.map (onNd (a.length : Int))) (c.map (onNd ((a.length + b.length : Nat) : Int))) [mkL ⟨26, 0, []⟩ [(a.length : Int) - 1, (a.length : Int) + (b.length : Int) - 1, (a.length : Int) + (b.length : Int) + (c.length : Int) - 1]]
    rw [List.length_append, List.length_map] at h
    exact h) (by omega)
  unfold root
  rw [hlen, Nat.add_sub_cancel, kbp hA hlast, kbS, kbo ⟨26, 0, []⟩ [_, _, _] (by show fitsB 26 3 = true; decide) (by intro k hk; simp at hk; omega)]
  simp only [List.map_cons, List.map_nil, mkT]
  rw [show ((a.length : Int) - 1).toNat = a.length - 1 by omega, show ((a.length : Int) + (b.length : Int) - 1).toNat = a.length + (b.length - 1) by omega, show ((a.length : Int) + (b.length : Int) + (c.length : Int) - 1).toNat = a.length + b.length + (c.length - 1) by omega, s1 _ (by omega), s2 _ (by omega), s3 _ (by omega)]
theorem pick_arrow (E : Env) {a b : List Nd} (ha : Tr.May a) (hb : Tr.May b) (hm : Tr.May (kaa 19 0 [] [a, b])) : ((tyM E (kaa 19 0 [] [a, b])).2 = 0 ↔ (tyM E a).2 = 0 /\ (tyM E b).2 = 0 /\ (tyM E a).1 = (tyM E b).1) /\ ((tyM E (kaa 19 0 [] [a, b])).2 = 0 -> (tyM E (kaa 19 0 [] [a, b])).1 = (tyM E a).1) := by
  have hr : root (kaa 19 0 [] [a, b]) = .l2 ⟨19, 0, []⟩ (root a) (root b) := by
    rw [In.join_pair ha hb 19 (by decide), pair_root ha hb (In.plain_bin (by decide)) (by decide)]
  have key : ∀ r, tyT E (root (kaa 19 0 [] [a, b])) = .ok r ↔ ∃ p q, tyT E (root a) = .ok p /\ tyT E (root b) = .ok q /\ p.1 = q.1 /\ r = (p.1, []) := fun r => by rw [hr]; exact arrow_ok E ⟨19, 0, []⟩ rfl (root a) (root b) r
  refine ⟨⟨fun h => ?_, fun ⟨h1, h2, h3⟩ => ?_⟩, fun h => ?_⟩
  · obtain ⟨_, r, hrr⟩ := kby.1 h
    obtain ⟨p, q, hp, hq, hpq, rfl⟩ := (key r).1 hrr
    rw [kc9 (may_yes ha) hp, kc9 (may_yes hb) hq]
    exact ⟨rfl, rfl, hpq⟩
  · obtain ⟨_, p, hp⟩ := kby.1 h1
    obtain ⟨_, q, hq⟩ := kby.1 h2
    rw [kc9 (may_yes ha) hp, kc9 (may_yes hb) hq] at h3
    exact kby.2 ⟨may_yes hm, _, (key _).2 ⟨p, q, hp, hq, h3, rfl⟩⟩
  · obtain ⟨_, r, hrr⟩ := kby.1 h
    obtain ⟨p, q, hp, hq, hpq, rfl⟩ := (key r).1 hrr
    rw [kc9 (may_yes hm) hrr, kc9 (may_yes ha) hp]
theorem pick_if (E : Env) {y a b : List Nd} (hy : Tr.May y) (ha : Tr.May a) (hb : Tr.May b) (x : Lab) (hx : x.op = 2) (hyr : root y = .l0 x) (hm : Tr.May (kaa 26 0 [] [y, a, b])) : ((tyM E (kaa 26 0 [] [y, a, b])).2 = 0 ↔ (tyM E a).2 = 0 /\ (tyM E b).2 = 0 /\ (tyM E a).1 = (tyM E b).1) /\ ((tyM E (kaa 26 0 [] [y, a, b])).2 = 0 -> (tyM E (kaa 26 0 [] [y, a, b])).1 = (tyM E a).1) := by
  have hr := kjP hy ha hb hm
  rw [hyr] at hr
  have key : ∀ r, tyT E (root (kaa 26 0 [] [y, a, b])) = .ok r ↔ ∃ p q, tyT E (root a) = .ok p /\ tyT E (root b) = .ok q /\ p.1 = q.1 /\ r = (p.1, []) := fun r => by rw [hr]; exact if_ok E ⟨26, 0, []⟩ x rfl hx (root a) (root b) r
  refine ⟨⟨fun h => ?_, fun ⟨h1, h2, h3⟩ => ?_⟩, fun h => ?_⟩
  · obtain ⟨_, r, hrr⟩ := kby.1 h
    obtain ⟨p, q, hp, hq, hpq, rfl⟩ := (key r).1 hrr
    rw [kc9 (may_yes ha) hp, kc9 (may_yes hb) hq]
    exact ⟨rfl, rfl, hpq⟩
  · obtain ⟨_, p, hp⟩ := kby.1 h1
    obtain ⟨_, q, hq⟩ := kby.1 h2
    rw [kc9 (may_yes ha) hp, kc9 (may_yes hb) hq] at h3
    exact kby.2 ⟨may_yes hm, _, (key _).2 ⟨p, q, hp, hq, h3, rfl⟩⟩
  · obtain ⟨_, r, hrr⟩ := kby.1 h
    obtain ⟨p, q, hp, hq, hpq, rfl⟩ := (key r).1 hrr
    rw [kc9 (may_yes hm) hrr, kc9 (may_yes ha) hp]
end Go.Proofs.YtlhcajhgbkgjbaaDoor.Ty

/- What an Arrow and an If of two are joined to: their names; the truth that the If hangs on. Conditions: the two may be. -/
namespace Go.Proofs.YtlhcajhgbkgjbaaDoor.Ty
open Go.ChangeShapes Go.WideShapes Go.ChangeAt Go.RowKit
open Tr
open Pg (Prm Unt)
def yesM : List Nd := kaa 2 1 [] []
theorem kes : yesM = (T.l0 ⟨2, 1, []⟩).flat 0 := by unfold yesM; rfl
theorem yes_may : Tr.May yesM := by rw [kes]; exact may_flat _ (by decide) (by decide) (by decide) (by decide)
theorem yes_root : root yesM = .l0 ⟨2, 1, []⟩ := by rw [kes]; exact root_flat _ (by decide)
theorem yes_len : yesM.length = 1 := by rw [kes]; rfl
theorem short_yes : Short yesM := by rw [kes]; exact keP (by decide)
theorem kg3 {e : List Nd} (h : Short e) (f : Int) : Short (e.map (onNd f)) := fun x hx => by
  obtain ⟨y, hy, rfl⟩ := List.mem_map.1 hx
  exact h y hy
theorem kd3 {a b : List Nd} (ha : Short a) (hb : Short b) : Short (a ++ b) := fun x hx => by
  rcases List.mem_append.1 hx with h | h
  · exact ha x h
  · exact hb x h
theorem kj6 (x : Lab) (l : List Int) (h : x.name = []) : Short [mkL x l] := fun y hy => by
  simp at hy; subst hy
  have : (mkL x l).name = x.name := congrArg Lab.name (kbS x l)
  rw [this, h]; simp
theorem short_two {a b : List Nd} (ha : Tr.May a) (hb : Tr.May b) (sa : Short a) (sb : Short b) : Short (kaa 19 0 [] [a, b]) := by
  rw [In.join_pair ha hb 19 (by decide)]
  unfold kbQ
  exact kd3 (kd3 sa (kg3 sb _)) (kj6 _ _ rfl)
theorem short_if {a b : List Nd} (ha : Tr.May a) (hb : Tr.May b) (sa : Short a) (sb : Short b) : Short (kaa 26 0 [] [yesM, a, b]) := by
  rw [kfI yes_may ha hb]
  unfold kcW
  exact kd3 (kd3 (kd3 short_yes (kg3 sa _)) (kg3 sb _)) (kj6 _ _ rfl)
theorem kbP (w : World) : Parts w w.heap.size (.slice none 0 0) [] := ⟨none, 0, rfl, Nat.le_refl _, by unfold maxLen; omega, fun i l h => by simp at h⟩
end Go.Proofs.YtlhcajhgbkgjbaaDoor.Ty

