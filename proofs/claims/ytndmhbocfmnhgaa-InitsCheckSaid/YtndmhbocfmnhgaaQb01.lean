/- From which instant on expressions are, as plain functions of trees. Conditions: none. -/
import Derived.Test.YtndmhbocfmnhgaaPk10
import Derived.Test.YtndmhbocfmnhgaaPq16
import Derived.Test.YtndmhbocfmnhgaaPk05
import Derived.BigQuiet
namespace Go.Proofs.Ytndmhbocfmnhgaa.In
open Go.Proofs.Ytndmhbocfmnhgaa.Tr
set_option linter.unusedVariables false
set_option linter.unusedSimpArgs false

def most (l : List Nat) : Nat := l.foldl max 0
/-- Of an operator of which all operands must be from 0 on. -/
def allB (op : Int) : Bool := op == 20 || op == 22 || op == 23 || op == 24 || op == 25 || op == 27
/-- From which instant on a node is, by those of its operands; none: one that must be from 0 on is not. -/
def stepI (op : Int) (l : List Nat) : Option Nat :=
  if op = 21 then (if most l = 0 then some 1 else none)
  else if op = 19 then (if l.headD 0 = 0 then some 0 else none)
  else if allB op = true then (if most l = 0 then some 0 else none)
  else some (most l)
def inT : T → Option Nat
  | .l0 x => stepI x.op []
  | .l1 x p => (inT p).bind fun a => stepI x.op [a]
  | .l2 x p q => (inT p).bind fun a => (inT q).bind fun b => stepI x.op [a, b]
  | .l3 x p q r => (inT p).bind fun a => (inT q).bind fun b => (inT r).bind fun c => stepI x.op [a, b, c]
theorem inT_mk (x : Lab) (l : List T) (h : l.length ≤ 3) (v : List Nat) (hv : l.map inT = v.map some) : inT (mkT x l) = stepI x.op v := by
  match l, h with
  | [], _ =>
    match v, hv with
    | [], _ => rfl
    | _ :: _, hv => simp at hv
  | [p], _ =>
    match v, hv with
    | [], hv => simp at hv
    | [a], hv => simp at hv; simp [mkT, inT, hv]
    | _ :: _ :: _, hv => simp at hv
  | [p, q], _ =>
    match v, hv with
    | [], hv => simp at hv
    | [_], hv => simp at hv
    | [a, b], hv => simp at hv; simp [mkT, inT, hv]
    | _ :: _ :: _ :: _, hv => simp at hv
  | [p, q, r], _ =>
    match v, hv with
    | [], hv => simp at hv
    | [_], hv => simp at hv
    | [_, _], hv => simp at hv
    | [a, b, c], hv => simp at hv; simp [mkT, inT, hv]
    | _ :: _ :: _ :: _ :: _, hv => simp at hv
theorem inT_none (x : Lab) (l : List T) (h : l.length ≤ 3) (hn : ∃ t ∈ l, inT t = none) : inT (mkT x l) = none := by
  obtain ⟨t, ht, hn⟩ := hn
  match l, h, ht with
  | [p], _, ht => simp at ht; subst ht; simp [mkT, inT, hn]
  | [p, q], _, ht =>
    simp at ht
    rcases ht with rfl | rfl
    · simp [mkT, inT, hn]
    · cases hp : inT p <;> simp [mkT, inT, hn, hp]
  | [p, q, r], _, ht =>
    simp at ht
    rcases ht with rfl | rfl | rfl
    · simp [mkT, inT, hn]
    · cases hp : inT p <;> simp [mkT, inT, hn, hp]
    · cases hp : inT p <;> cases hq : inT q <;> simp [mkT, inT, hn, hp, hq]
/-- What a node is made of has been reckoned. -/
theorem inT_step {e : List Nd} (h : Ahead e) {i : Nat} {n : Nd} (hn : e[i]? = some n) (V : Nat → Nat) (hV : ∀ j, j < i → inT (tree e j) = some (V j)) :
    inT (tree e i) = stepI n.op ((kidsM n).map fun k => V k.toNat) := by
  rw [tree_eq h hn]
  have hl : ((kidsM n).map fun k => tree e k.toNat).length ≤ 3 := by rw [List.length_map]; exact kids_small n
  rw [inT_mk n.lab _ hl ((kidsM n).map fun k => V k.toNat) (by
    rw [List.map_map, List.map_map]
    apply List.map_congr_left
    intro k hk
    have := h i _ hn k hk
    exact hV k.toNat (by omega))]
  rfl
theorem inT_up {e : List Nd} (h : Ahead e) {j : Nat} (hj : inT (tree e j) = none) : ∀ i, i < e.length → j ∈ desc e i → inT (tree e i) = none := by
  intro i
  induction i using Nat.strongRecOn with
  | ind i ih =>
    intro hi hd
    have hn := of_getD hi
    rw [desc_eq h hn, List.mem_append, List.mem_flatMap] at hd
    rcases hd with ⟨k, hk, hd⟩ | hd
    · have hki := h i _ hn k hk
      rw [tree_eq h hn]
      refine inT_none _ _ (by rw [List.length_map]; exact kids_small _) ⟨tree e k.toNat, List.mem_map.2 ⟨k, hk, rfl⟩, ih k.toNat (by omega) (by omega) hd⟩
    · simp at hd; subst hd; exact hj
theorem May.none_root {e : List Nd} (h : Tr.May e) {j : Nat} (hj : j < e.length) (hn : inT (tree e j) = none) : inT (root e) = none :=
  inT_up h.ahead hn (e.length - 1) (by have := h.pos; omega) (h.all (e.length - 1 - j) j (Nat.le_refl _) hj)
/-- What Of answers: an instant, an error. -/
noncomputable def ofM (e : List Nd) : Int × Int := if mayB e = true then (match inT (root e) with | some v => ((v : Int), 0) | none => (0, 11)) else (0, 1)
theorem ofM_not {e : List Nd} (h : mayB e = false) : ofM e = (0, 1) := by unfold ofM; rw [h]; rfl
theorem ofM_none {e : List Nd} (h : mayB e = true) {j : Nat} (hj : j < e.length) (hn : inT (tree e j) = none) : ofM e = (0, 11) := by
  unfold ofM; rw [if_pos h, May.none_root (may_of h) hj hn]
theorem ofM_some {e : List Nd} (h : mayB e = true) {v : Nat} (hn : inT (root e) = some v) : ofM e = ((v : Int), 0) := by
  unfold ofM; rw [if_pos h, hn]
theorem step_le (op : Int) (l : List Nat) (h : ∀ x ∈ l, x ≤ 1) (v : Nat) (hv : stepI op l = some v) : v ≤ 1 := by
  have hm : ∀ (l : List Nat) (a : Nat), a ≤ 1 → (∀ x ∈ l, x ≤ 1) → l.foldl max a ≤ 1 := by
    intro l
    induction l with
    | nil => intro a ha _; exact ha
    | cons x r ih => intro a ha hx; exact ih _ (by have := hx x (by simp); omega) (fun y hy => hx y (by simp [hy]))
  unfold stepI at hv
  split at hv
  · split at hv <;> simp at hv; omega
  split at hv
  · split at hv <;> simp at hv; omega
  split at hv
  · split at hv <;> simp at hv; omega
  · simp at hv; rw [← hv]; exact hm l 0 (by omega) h
theorem inT_le : ∀ (t : T) (v : Nat), inT t = some v → v ≤ 1
  | .l0 x, v, h => step_le x.op [] (by simp) v h
  | .l1 x p, v, h => by
    simp only [inT, Option.bind_eq_some_iff] at h
    obtain ⟨a, ha, h⟩ := h
    exact step_le _ _ (by simp; exact inT_le p a ha) v h
  | .l2 x p q, v, h => by
    simp only [inT, Option.bind_eq_some_iff] at h
    obtain ⟨a, ha, b, hb, h⟩ := h
    exact step_le _ _ (by simp; exact ⟨inT_le p a ha, inT_le q b hb⟩) v h
  | .l3 x p q r, v, h => by
    simp only [inT, Option.bind_eq_some_iff] at h
    obtain ⟨a, ha, b, hb, c, hc, h⟩ := h
    exact step_le _ _ (by simp; exact ⟨inT_le p a ha, inT_le q b hb, inT_le r c hc⟩) v h
theorem step_zero (op : Int) (l : List Nat) (hop : op ≠ 21) (h : ∀ x ∈ l, x = 0) : stepI op l = some 0 := by
  have hm : ∀ l : List Nat, (∀ x ∈ l, x = 0) → l.foldl max 0 = 0 := by
    intro l
    induction l with
    | nil => intro _; rfl
    | cons x r ih =>
      intro hx
      rw [List.foldl_cons, hx x (by simp)]
      exact ih (fun y hy => hx y (by simp [hy]))
  have h0 : most l = 0 := hm l h
  have h1 : l.headD 0 = 0 := by cases l with
    | nil => rfl
    | cons x r => exact h x (by simp)
  unfold stepI
  rw [if_neg hop, if_pos h1, if_pos h0, h0]
  split
  · rfl
  · split <;> rfl
/-- Without a Pre an expression is from 0 on. -/
theorem inT_plain : ∀ (t : T), (∀ x ∈ t.labs, x.op ≠ 21) → inT t = some 0
  | .l0 x, h => step_zero x.op [] (h x (by simp [T.labs])) (by simp)
  | .l1 x p, h => by
    simp only [inT, inT_plain p (fun y hy => h y (by simp [T.labs, hy])), Option.bind_some]
    exact step_zero _ _ (h x (by simp [T.labs])) (by simp)
  | .l2 x p q, h => by
    simp only [inT, inT_plain p (fun y hy => h y (by simp [T.labs, hy])), inT_plain q (fun y hy => h y (by simp [T.labs, hy])), Option.bind_some]
    exact step_zero _ _ (h x (by simp [T.labs])) (by simp)
  | .l3 x p q r, h => by
    simp only [inT, inT_plain p (fun y hy => h y (by simp [T.labs, hy])), inT_plain q (fun y hy => h y (by simp [T.labs, hy])), inT_plain r (fun y hy => h y (by simp [T.labs, hy])), Option.bind_some]
    exact step_zero _ _ (h x (by simp [T.labs])) (by simp)
/-- An expression from where it is on: a part of one that is not wrong is not wrong. -/
theorem part_some {e : List Nd} (h : Tr.May e) {v : Nat} (hv : inT (root e) = some v) {j : Nat} (hj : j < e.length) : ∃ u, inT (tree e j) = some u := by
  cases hu : inT (tree e j) with
  | some u => exact ⟨u, rfl⟩
  | none => rw [May.none_root h hj hu] at hv; cases hv
end Go.Proofs.Ytndmhbocfmnhgaa.In

/- The document's Of for layer inits: a node; contracts. Conditions: the slice is read as a list of nodes. -/
namespace Go.Proofs.Ytndmhbocfmnhgaa.In
open Go.ChangeShapes Go.WideShapes Go.ChangeAt Go.RowKit Go.Proofs.Ytndmhbocfmnhgaa.Tr
set_option linter.unusedVariables false
set_option linter.unusedSimpArgs false

/-- The greatest one of the first values. -/
def mx (V : Nat → Nat) (l : List Int) (j : Nat) : Nat := most ((l.take j).map fun k => V k.toNat)
theorem mx_zero (V : Nat → Nat) (l : List Int) : mx V l 0 = 0 := rfl
theorem mx_next {V : Nat → Nat} {l : List Int} {j : Nat} {k : Int} (h : l[j]? = some k) : mx V l (j + 1) = max (mx V l j) (V k.toNat) := by
  unfold mx most; rw [List.take_add_one, h]; simp [List.foldl_append]
theorem mx_all (V : Nat → Nat) (l : List Int) : mx V l l.length = most (l.map fun k => V k.toNat) := by unfold mx; rw [List.take_length]
theorem mx_le {V : Nat → Nat} {l : List Int} (h : ∀ k ∈ l, V k.toNat ≤ 1) : ∀ j, mx V l j ≤ 1 := by
  intro j
  induction j with
  | zero => simp [mx_zero]
  | succ j ih =>
    cases hl : l[j]? with
    | none =>
      have : l.length ≤ j := List.getElem?_eq_none_iff.1 hl
      unfold mx at ih ⊢
      rw [List.take_of_length_le (by omega)] at ih ⊢; exact ih
    | some k =>
      rw [mx_next hl]
      have := h k (List.mem_of_getElem? hl)
      omega
/-- What a node's step answers. -/
def stepR (op : Int) (l : List Nat) : Int × Int := match stepI op l with | some v => ((v : Int), 0) | none => (0, 11)
theorem stepR_21 {l : List Nat} {m : Nat} (h : most l = m) : stepR 21 l = if m = 0 then (1, 0) else (0, 11) := by
  subst h; unfold stepR stepI; rw [if_pos rfl]
  by_cases h0 : most l = 0
  · rw [if_pos h0, if_pos h0]; rfl
  · rw [if_neg h0, if_neg h0]
theorem stepR_19 {a : Nat} {l : List Nat} : stepR 19 (a :: l) = if a = 0 then (0, 0) else (0, 11) := by
  cases a with
  | zero => rfl
  | succ a => rfl
theorem stepR_all {op : Int} {l : List Nat} {m : Nat} (h : most l = m) (ho : op ≠ 21) (ho2 : op ≠ 19) (ha : allB op = true) : stepR op l = if m = 0 then (0, 0) else (0, 11) := by
  subst h; unfold stepR stepI; rw [if_neg ho, if_neg ho2, if_pos ha]
  by_cases h0 : most l = 0
  · rw [if_pos h0, if_pos h0]; rfl
  · rw [if_neg h0, if_neg h0]
theorem stepR_else {op : Int} {l : List Nat} {m : Nat} (h : most l = m) (ho : op ≠ 21) (ho2 : op ≠ 19) (ha : allB op = false) : stepR op l = ((m : Int), 0) := by
  subst h; unfold stepR stepI; rw [if_neg ho, if_neg ho2, if_neg (by rw [ha]; decide)]
theorem ret2 {a b : Int} {p : Int × Int} (h : p = (a, b)) : Ending.returned (.tuple #[.int .i64 a, .int .i64 b]) = .returned (.tuple #[.int .i64 p.1, .int .i64 p.2]) := by rw [h]
def NodePost (w : World) (p : Int × Int) (e : Ending) (w' : World) : Prop := e = .returned (.tuple #[.int .i64 p.1, .int .i64 p.2]) ∧ Below w.heap.size w w'
set_option maxRecDepth 100000 in
set_option maxHeartbeats 8000000 in
theorem rnode_any (v lv : Value) (e : List Nd) (L : List Int) (i : Nat) (x : Nd) (V : Nat → Nat) (w : World) (hv : Nodes w v e) (hn : e.length ≤ 100000) (hl : Ints w lv L) (hx : e[i]? = some x) (hk : ∀ k ∈ kidsM x, 0 ≤ k ∧ k < i) (hL : ∀ j, j < i → L[j]? = some (V j : Int)) (hV : ∀ j, j < i → V j ≤ 1) :
    Calls Try.prog 25 #[v, .int .i64 (i : Int), lv] w (NodePost w (stepR x.op ((kidsM x).map fun k => V k.toNat))) := by
  obtain ⟨A, c, rfl, h1, h2, hA⟩ := hv
  unfold maxLen at h2
  obtain ⟨AL, cl, rfl, hl1, hl2, hAL⟩ := hl
  unfold maxLen at hl2
  have hil : i < e.length := (List.getElem?_eq_some_iff.1 hx).1
  obtain ⟨g, o, rfl, hg, a0, a1, a2, a3, a4, a5⟩ := hA i x hx
  have HAL := Lib.hid hAL
  have HK := Lib.hid hk
  have HL := Lib.hid hL
  have HV := Lib.hid hV
  have hLl : i ≤ L.length := by
    rcases Nat.eq_zero_or_pos i with h | h
    · omega
    · have := (List.getElem?_eq_some_iff.1 (hL (i - 1) (by omega))).1; omega
  have HM := Lib.hid (mx_le (V := V) (l := kidsM x) (fun k hk' => hV k.toNat (by have := hk k hk'; omega)))
  have HMA := Lib.hid (mx_all V (kidsM x))
  obtain ⟨R, hR⟩ : ∃ R, stepR x.op ((kidsM x).map fun k => V k.toNat) = R := ⟨_, rfl⟩
  have HR := Lib.hid hR
  rw [hR]
  have HK19 : Hid (x.op = 19 → ∃ (t : Nat) (r : List Nat), x.a = (t : Int) ∧ t < i ∧ (kidsM x).map (fun k => V k.toNat) = V t :: r) := Lib.hid (fun h => by
    have hb : kidsM x = [x.a, x.b] := kidsM_bin x (by rw [h]; decide)
    have := hk x.a (by rw [hb]; simp)
    exact ⟨x.a.toNat, [V x.b.toNat], by omega, by omega, by rw [hb]; rfl⟩)
  clear hA hAL hk hL hV hx hR
  obtain ⟨KL, hKL⟩ : ∃ K, kidsM x = K := ⟨_, rfl⟩
  have HKL := Lib.hid hKL
  rw [hKL] at HK HM HMA HR HK19
  clear hKL
  go_enter Try.func25, Try.ntmps25
  go_wp2_with fail
  refine (rkids_any x _).mono ?_
  rintro r w2 ⟨kv, rfl, hok, hb2⟩
  rw [HKL.out] at hok
  obtain ⟨A2, c2, rfl, y1, y2, hA2⟩ := Ints.of_own hok
  have HA2 := Lib.hid hA2
  have hb0 : Below w.heap.size w w2 := (below_new w (.cells #[.int .i64 x.op, .int .i64 x.a, .int .i64 x.b, .int .i64 x.c, .int .i64 x.n, .string (str x.name)] 40)).trans (hb2.mono (by simp))
  have HB2 := Lib.hid hb0
  have hX := (hb2.block _ (by simp)).trans (heap_alloc_new w (.cells #[.int .i64 x.op, .int .i64 x.a, .int .i64 x.b, .int .i64 x.c, .int .i64 x.n, .string (str x.name)] 40))
  have e0 : w2.cell? ⟨w.heap.size, 0, none⟩ = some (.int .i64 x.op) := by simp [World.cell?, hX]
  have e1 : w2.cell? ⟨w.heap.size, 1, none⟩ = some (.int .i64 x.a) := by simp [World.cell?, hX]
  have hz2 := hb2.size
  simp at hz2
  clear hok hA2 hb2 hb0 hX
  unfold maxLen at y2
  go_wp2
  go_loop [10, 11] (fun d c => ∃ j : Nat, j ≤ KL.length ∧ c = .int .i64 j ∧ d = .int .i64 (mx V KL j : Nat)) (fun _ c => KL.length - (intOf c).toNat)
  case atStart => exact ⟨0, Nat.zero_le _, rfl, rfl⟩
  case round =>
    obtain ⟨j, hj, rfl, rfl⟩ := hrel
    have hm := HM.out j
    by_cases hlj : j < KL.length
    · obtain ⟨q, hq⟩ : ∃ q, KL[j]? = some q := ⟨_, List.getElem?_eq_getElem hlj⟩
      obtain ⟨g2, o2, rfl, hg2, d0⟩ := HA2.out j q hq
      have hqk := HK.out q (List.mem_of_getElem? hq)
      obtain ⟨m, rfl⟩ := Int.eq_ofNat_of_zero_le hqk.1
      have hmi : m < i := by omega
      obtain ⟨g3, o3, rfl, hg3, d1'⟩ := HAL.out m _ (HL.out m hmi)
      have d1 := (HB2.out.cell (p := ⟨g3, o3 + m, none⟩) hg3).trans d1'
      have hg3' : g3 < w2.heap.size := by omega
      have hmL : m < L.length := by omega
      have HN2 := Lib.hid (show mx V KL (j + 1) = max (mx V KL j) (V m) from mx_next hq)
      have hv1 := HV.out m hmi
      obtain ⟨vm, hvm⟩ : ∃ vm, V m = vm := ⟨_, rfl⟩
      rw [hvm] at d1 HN2 hv1
      obtain ⟨dj, hdj⟩ : ∃ dj, mx V KL j = dj := ⟨_, rfl⟩
      rw [hdj] at hm HN2 ⊢
      clear hvm hdj hq d1'
      go_wp2
      refine ⟨⟨j + 1, by omega, by go_num, by rw [HN2.out]; congr 1; split <;> omega⟩, by simp [intOf]; omega⟩
    · have hjl : j = KL.length := by omega
      subst hjl
      obtain ⟨m, hmm⟩ : ∃ m, mx V KL KL.length = m := ⟨_, rfl⟩
      have HMM := Lib.hid (HMA.out.symm.trans hmm)
      rw [hmm] at hm ⊢
      clear hmm
      obtain ⟨op, a, b, cc, n, nm⟩ := x
      simp only at e0 e1 HR HK19
      by_cases h21 : op = 21
      · subst h21
        have hm01 : m = 0 ∨ m = 1 := by omega
        rcases hm01 with rfl | rfl
        · have HE := Lib.hid (HR.out.symm.trans (stepR_21 HMM.out))
          go_wp2
          go_ret2
          exact ⟨ret2 (HE.out.trans rfl), HB2.out⟩
        · have HE := Lib.hid (HR.out.symm.trans (stepR_21 HMM.out))
          go_wp2
          go_ret2
          exact ⟨ret2 (HE.out.trans rfl), HB2.out⟩
      have b21 : (op == 21) = false := by simpa using h21
      by_cases h19 : op = 19
      · subst h19
        obtain ⟨t, rr, rfl, ht, hmap⟩ := HK19.out rfl
        obtain ⟨g3, o3, rfl, hg3, d1'⟩ := HAL.out t _ (HL.out t ht)
        have d1 := (HB2.out.cell (p := ⟨g3, o3 + t, none⟩) hg3).trans d1'
        have hg3' : g3 < w2.heap.size := by omega
        have htL : t < L.length := by omega
        have hv1 := HV.out t ht
        have HE := Lib.hid (HR.out.symm.trans ((congrArg (stepR 19) hmap).trans stepR_19))
        obtain ⟨vm, hvm⟩ : ∃ vm, V t = vm := ⟨_, rfl⟩
        rw [hvm] at d1 HE hv1
        clear hvm d1' hmap
        have hm01 : vm = 0 ∨ vm = 1 := by omega
        rcases hm01 with rfl | rfl
        · go_wp2
          go_ret2
          exact ⟨ret2 (HE.out.trans rfl), HB2.out⟩
        · go_wp2
          go_ret2
          exact ⟨ret2 (HE.out.trans rfl), HB2.out⟩
      have b19 : (op == 19) = false := by simpa using h19
      by_cases hall : allB op = true
      · have HE := Lib.hid (HR.out.symm.trans (stepR_all HMM.out h21 h19 hall))
        have hops : op = 27 ∨ op = 20 ∨ op = 22 ∨ op = 23 ∨ op = 24 ∨ op = 25 := by unfold allB at hall; simp at hall; omega
        clear h21 h19 hall b21 b19
        have hm01 : m = 0 ∨ m = 1 := by omega
        rcases hops with rfl | rfl | rfl | rfl | rfl | rfl
        all_goals rcases hm01 with rfl | rfl
        all_goals go_wp2
        all_goals go_ret2
        all_goals exact ⟨ret2 (HE.out.trans rfl), HB2.out⟩
      · have hall' : allB op = false := by simpa using hall
        have HE := Lib.hid (HR.out.symm.trans (stepR_else HMM.out h21 h19 hall'))
        unfold allB at hall'
        simp only [Bool.or_eq_false_iff] at hall'
        obtain ⟨⟨⟨⟨⟨b20, b22⟩, b23⟩, b24⟩, b25⟩, b27⟩ := hall'
        clear h21 h19 hall
        go_wp2
        go_ret2
        exact ⟨ret2 HE.out, HB2.out⟩
end Go.Proofs.Ytndmhbocfmnhgaa.In

/- The program's Of for layer inits: what must be from 0 on; what holds at each place of its way. Conditions: slices are read as lists. -/
namespace Go.Proofs.Ytndmhbocfmnhgaa.In
open Go.ChangeShapes Go.WideShapes Go.ChangeAt Go.RowKit Go.Proofs.Ytndmhbocfmnhgaa.Tr
set_option linter.unusedVariables false
set_option linter.unusedSimpArgs false

def anyL (L : List Int) (kl : List Int) : Bool := kl.any fun k => L.getD k.toNat 0 != 0
theorem anyL_next {L kl : List Int} {j : Nat} {k : Int} (h : kl[j]? = some k) : anyL L (kl.take (j + 1)) = (anyL L (kl.take j) || (L.getD k.toNat 0 != 0)) := by
  unfold anyL; rw [List.take_add_one, h]; simp
set_option maxRecDepth 100000 in
set_option maxHeartbeats 4000000 in
theorem must_any (kv lv : Value) (kl L : List Int) (X Y : Nat) (E : Bool) (w : World) (hk : Ints w kv kl) (hl : Ints w lv L) (hX : w.heap[X]? = some (.cells #[.bool E] 4 (0, 0))) (hY : w.heap[Y]? = some (.cells #[lv] 48 (0, 0)))
    (hin : ∀ k ∈ kl, 0 ≤ k ∧ k.toNat < L.length) (hkX : ∀ g o n c, kv = .slice (some ⟨g, o, none⟩) n c → g ≠ X) (hlX : ∀ g o n c, lv = .slice (some ⟨g, o, none⟩) n c → g ≠ X) (hn : kl.length ≤ 1000000) :
    Calls Try.prog 23 #[kv, .pointer (some ⟨X, 0, none⟩), .pointer (some ⟨Y, 0, none⟩)] w fun e w' => e = .returned (.tuple #[]) ∧ w'.heap[X]? = some (.cells #[.bool (E || anyL L kl)] 4 (0, 0)) ∧ w.grownBy w' (some X) := by
  obtain ⟨A, c, rfl, h1, h2, hA⟩ := hk
  obtain ⟨AL, cl, rfl, hl1, hl2, hAL⟩ := hl
  unfold maxLen at h2 hl2
  have HA := Lib.hid hA
  have HAL := Lib.hid hAL
  have HIN := Lib.hid hin
  have hXY : X ≠ Y := by
    rintro rfl
    rw [hX] at hY
    simp at hY
  have HX := Lib.hid hX
  have HY := Lib.hid hY
  have HKX := Lib.hid hkX
  have HLX := Lib.hid hlX
  clear hA hAL hin hX hY hkX hlX
  go_enter Try.func23, Try.ntmps23
  go_wp2
  go_loopw [8] (fun i wr => ∃ j : Nat, j ≤ kl.length ∧ i = .int .i64 j ∧ wr.heap[X]? = some (.cells #[.bool (E || anyL L (kl.take j))] 4 (0, 0)) ∧ w.grownBy wr (some X)) (fun i _ => kl.length - (intOf i).toNat)
  case atStart => exact ⟨0, Nat.zero_le _, rfl, by simpa [anyL] using HX.out, World.grownBy.refl w _⟩
  case round =>
    obtain ⟨j, hj, rfl, hx, hg⟩ := hrel
    have HG := Lib.hid hg
    have HXX := Lib.hid hx
    by_cases hlj : j < kl.length
    · obtain ⟨q, hq⟩ : ∃ q, kl[j]? = some q := ⟨_, List.getElem?_eq_getElem hlj⟩
      have hqi := HIN.out q (List.mem_of_getElem? hq)
      have HN := Lib.hid (anyL_next (L := L) hq)
      obtain ⟨g1, o1, rfl, hg1, a0⟩ := HA.out j q hq
      have hgx : g1 ≠ X := HKX.out _ _ _ _ rfl
      obtain ⟨m, rfl⟩ := Int.eq_ofNat_of_zero_le hqi.1
      have hmL : m < L.length := by simpa using hqi.2
      obtain ⟨v, hv⟩ : ∃ v, L[m]? = some v := ⟨_, List.getElem?_eq_getElem hmL⟩
      have hgd : L.getD m 0 = v := by simp [List.getD, hv]
      simp only [Int.toNat_natCast] at HN
      rw [hgd] at HN
      obtain ⟨g2, o2, rfl, hg2, b0⟩ := HAL.out m v hv
      have hgx2 : g2 ≠ X := HLX.out _ _ _ _ rfl
      have cc : ∀ g q', g ≠ X → g < w.heap.size → wr.cell? ⟨g, q', none⟩ = w.cell? ⟨g, q', none⟩ := fun g q' hne hlt => World.cell?_of_block (w := w) (a := ⟨g, q', none⟩) (hg.block g hlt (fun e => hne (by injection e)))
      have c0 := (cc g1 (o1 + j) hgx hg1).trans a0
      have c1 := (cc g2 (o2 + m) hgx2 hg2).trans b0
      have c2 : wr.cell? ⟨Y, 0, none⟩ = some (.slice (some ⟨g2, o2, none⟩) L.length cl) := (cc Y 0 (fun e => hXY e.symm) (lt_of_block HY.out)).trans (by simp [World.cell?, HY.out])
      have c3 : wr.cell? ⟨X, 0, none⟩ = some (.bool (E || anyL L (kl.take j))) := by simp [World.cell?, hx]
      have f3 : wr.frozen? ⟨X, 0, none⟩ = false := by simp [World.frozen?, hx]
      have hs := hg.size
      have hg1' : g1 < wr.heap.size := by omega
      have hg2' : g2 < wr.heap.size := by omega
      have hXl := lt_of_block hx
      have hYl : Y < wr.heap.size := by have := lt_of_block HY.out; omega
      have HE : Hid (∀ b : Bool, b = (E || anyL L (kl.take (j + 1))) → (wr.setCell ⟨X, 0, none⟩ (.bool b)).heap[X]? = some (.cells #[.bool (E || anyL L (kl.take (j + 1)))] 4 (0, 0)) ∧ w.grownBy (wr.setCell ⟨X, 0, none⟩ (.bool b)) (some X)) := Lib.hid (fun b hb => by
        subst hb
        refine ⟨by rw [Ex.setObj_heap HXX.out (by simp)]; simp, ⟨HG.out.os, HG.out.tape, HG.out.output, by simpa [World.setCell] using HG.out.size, fun i hi hne => (Below.heap_setCell wr ⟨X, 0, none⟩ _ i (fun e => hne (by simp at e; rw [e]))).trans (HG.out.block i hi hne)⟩⟩)
      clear hx hg cc hq hv a0 b0 hgd
      obtain ⟨bb, hbb⟩ : ∃ bb, (E || anyL L (kl.take j)) = bb := ⟨_, rfl⟩
      have HB : Hid ((E || anyL L (kl.take (j + 1))) = (bb || (v != 0))) := Lib.hid (by rw [HN.out, ← hbb, Bool.or_assoc])
      rw [hbb] at c3
      clear hbb
      cases bb with
      | true =>
        have h1 := HE.out true (by rw [HB.out]; rfl)
        have H1 := Lib.hid h1
        clear h1
        go_wp2
        refine ⟨⟨j + 1, by omega, by go_num, H1.out.1, H1.out.2⟩, by simp [intOf]; omega⟩
      | false =>
        rcases Bool.eq_false_or_eq_true (v != 0) with hv0 | hv0
        all_goals
          have h1 := HE.out (v != 0) (by rw [HB.out]; rfl)
          rw [hv0] at h1
          have H1 := Lib.hid h1
          clear h1
          go_wp2
          refine ⟨⟨j + 1, by omega, by go_num, H1.out.1, H1.out.2⟩, by simp [intOf]; omega⟩
    · have hjl : j = kl.length := by omega
      subst hjl
      have H1 : Hid (wr.heap[X]? = some (.cells #[.bool (E || anyL L kl)] 4 (0, 0))) := Lib.hid (by have := HXX.out; rw [List.take_length] at this; exact this)
      clear hx hg
      go_wp2
      go_end0
      exact ⟨rfl, H1.out, HG.out⟩

/-- The greatest value of the first operands. -/
def mxL (L kl : List Int) (j : Nat) : Int := (kl.take j).foldl (fun m q => if m < L.getD q.toNat 0 then L.getD q.toNat 0 else m) 0
theorem mxL_next {L kl : List Int} {j : Nat} {k : Int} (h : kl[j]? = some k) : mxL L kl (j + 1) = if mxL L kl j < L.getD k.toNat 0 then L.getD k.toNat 0 else mxL L kl j := by
  unfold mxL; rw [List.take_add_one, h]; simp [List.foldl_append]
theorem mxL_nat (L : List Int) (V : Nat → Nat) (kl : List Int) (h : ∀ k ∈ kl, L.getD k.toNat 0 = (V k.toNat : Int)) : mxL L kl kl.length = (most (kl.map fun k => V k.toNat) : Nat) := by
  have key : ∀ j, j ≤ kl.length → mxL L kl j = (mx V kl j : Nat) := by
    intro j
    induction j with
    | zero => intro _; rfl
    | succ j ih =>
      intro hj
      obtain ⟨k, hk⟩ : ∃ k, kl[j]? = some k := ⟨_, List.getElem?_eq_getElem (by omega)⟩
      rw [mxL_next hk, mx_next hk, ih (by omega), h k (List.mem_of_getElem? hk)]
      split <;> omega
  rw [key _ (Nat.le_refl _), mx_all]
/-- What is known of the nodes so far. -/
structure Rel (e : List Nd) (k : Nat) (L : List Int) (E : Bool) : Prop where
  len : L.length = e.length
  rest : ∀ j, k ≤ j → j < e.length → L[j]? = some 0
  ok : E = false → ∀ j, j < k → ∃ a : Nat, inT (tree e j) = some a ∧ L[j]? = some (a : Int)
  bad : E = true → ∃ j, j < k ∧ inT (tree e j) = none
theorem Rel.start (e : List Nd) : Rel e 0 (List.replicate e.length 0) false :=
  ⟨by simp, fun j _ hj => by rw [List.getElem?_replicate, if_pos hj], fun _ j hj => by omega, fun h => by cases h⟩
def valOf (L : List Int) (j : Nat) : Nat := (L.getD j 0).toNat
theorem Rel.val {e : List Nd} {k : Nat} {L : List Int} {E : Bool} (h : Rel e k L E) (hE : E = false) {j : Nat} (hj : j < k) : inT (tree e j) = some (valOf L j) ∧ L.getD j 0 = (valOf L j : Int) := by
  obtain ⟨a, h1, h2⟩ := h.ok hE j hj
  have : L.getD j 0 = (a : Int) := by simp [List.getD, h2]
  unfold valOf; rw [this]; exact ⟨h1, by simp⟩
theorem Rel.next {e : List Nd} {k : Nat} {L : List Int} {E E' : Bool} {x : Nd} {u : Int} (ha : Ahead e) (hx : e[k]? = some x) (h : Rel e k L E) (h1 : E = true → E' = true) (h2 : E = false → E' = false → ∃ a : Nat, stepI x.op ((kidsM x).map fun j => valOf L j.toNat) = some a ∧ u = (a : Int)) (h3 : E = false → E' = true → stepI x.op ((kidsM x).map fun j => valOf L j.toNat) = none) :
    Rel e (k + 1) (L.set k u) E' := by
  have hk := (List.getElem?_eq_some_iff.1 hx).1
  refine ⟨by rw [List.length_set]; exact h.len, fun j h4 h5 => by rw [List.getElem?_set_ne (by omega)]; exact h.rest j (by omega) h5, fun hE j hj => ?_, fun hE => ?_⟩
  · have hE0 : E = false := by cases E with
      | false => rfl
      | true => rw [h1 rfl] at hE; cases hE
    by_cases hjk : j = k
    · subst hjk
      obtain ⟨a, h6, h7⟩ := h2 hE0 hE
      refine ⟨a, ?_, ?_⟩
      · rw [inT_step ha hx (valOf L) (fun i hi => (h.val hE0 hi).1)]; exact h6
      · rw [List.getElem?_set_self (by rw [h.len]; exact hk), h7]
    · rw [List.getElem?_set_ne (by omega)]
      exact h.ok hE0 j (by omega)
  · cases E with
    | true => obtain ⟨j, h6, h7⟩ := h.bad rfl; exact ⟨j, by omega, h7⟩
    | false => exact ⟨k, by omega, by rw [inT_step ha hx (valOf L) (fun i hi => (h.val rfl hi).1)]; exact h3 rfl hE⟩
theorem most_zero (l : List Nat) : most l = 0 ↔ ∀ x ∈ l, x = 0 := by
  have key : ∀ (l : List Nat) (a : Nat), l.foldl max a = 0 ↔ a = 0 ∧ ∀ x ∈ l, x = 0 := by
    intro l
    induction l with
    | nil => intro a; simp
    | cons x r ih =>
      intro a
      rw [List.foldl_cons, ih]
      constructor
      · rintro ⟨h1, h2⟩
        refine ⟨by omega, fun y hy => ?_⟩
        rcases List.mem_cons.1 hy with rfl | hy
        · omega
        · exact h2 y hy
      · rintro ⟨h1, h2⟩
        exact ⟨by have := h2 x (by simp); omega, fun y hy => h2 y (by simp [hy])⟩
  unfold most; rw [key]; simp
theorem any_most {e : List Nd} {k : Nat} {L : List Int} {x : Nd} (h : Rel e k L false) (hk : ∀ q ∈ kidsM x, 0 ≤ q ∧ q < (k : Int)) : anyL L (kidsM x) = decide (most ((kidsM x).map fun j => valOf L j.toNat) ≠ 0) := by
  unfold anyL
  rw [Bool.eq_iff_iff, List.any_eq_true, decide_eq_true_iff, Ne, most_zero]
  constructor
  · rintro ⟨q, hq, hv⟩ hall
    have h0 := hall _ (List.mem_map.2 ⟨q, hq, rfl⟩)
    have := (h.val rfl (j := q.toNat) (by have := hk q hq; omega)).2
    rw [this, h0] at hv
    simp at hv
  · intro hne
    apply Classical.byContradiction
    intro hno
    apply hne
    intro y hy
    obtain ⟨q, hq, rfl⟩ := List.mem_map.1 hy
    have hz : L.getD q.toNat 0 = 0 := Classical.byContradiction fun hz => hno ⟨q, hq, by simpa using hz⟩
    show valOf L q.toNat = 0
    unfold valOf; rw [hz]; rfl
/-- The answers. -/
theorem ofM_bad {e : List Nd} (hm : mayB e = true) {k : Nat} (hk : k ≤ e.length) {L : List Int} (h : Rel e k L true) : ofM e = (0, 11) := by
  obtain ⟨j, hj, hn⟩ := h.bad rfl
  exact ofM_none hm (by omega) hn
theorem ofM_good {e : List Nd} (hm : mayB e = true) {L : List Int} (h : Rel e e.length L false) {v : Int} (hv : L[e.length - 1]? = some v) : ofM e = (v, 0) := by
  have hp := (may_of hm).pos
  obtain ⟨a, h1, h2⟩ := h.ok rfl (e.length - 1) (by omega)
  rw [hv] at h2
  simp only [Option.some.injEq] at h2
  rw [h2]
  exact ofM_some hm h1
end Go.Proofs.Ytndmhbocfmnhgaa.In

