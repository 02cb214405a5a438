/- What two expressions that may be are joined to: whether it may be, and its operands. Conditions: none. -/
import Derived.Test.YtndmhbocfmnhgaaPq16
import Derived.Test.YtndmhbocfmnhgaaQb04
import Derived.Test.YtndmhbocfmnhgaaQa08
import Derived.Test.YtndmhbocfmnhgaaPq24
namespace Go.Proofs.Ytndmhbocfmnhgaa.Tr
open Go.RowKit
set_option linter.unusedVariables false
set_option linter.unusedSimpArgs false

/-- Two expressions under an operator of two operands. -/
def pairM (x : Lab) (a b : List Nd) : List Nd := a ++ b.map (onNd (a.length : Int)) ++ [mkL x [(a.length : Int) - 1, (a.length : Int) + (b.length : Int) - 1]]
theorem pair_len (x : Lab) (a b : List Nd) : (pairM x a b).length = a.length + b.length + 1 := by unfold pairM; simp; omega
/-- A node that is well, counted on: its operands are counted on. -/
theorem kids_on {e : List Nd} {i : Nat} {x : Nd} (h : Good e i x) (f : Nat) (hs : i + f ≤ 1000000000) : kidsM (onNd (f : Int) x) = (kidsM x).map (fun k => k + (f : Int)) ∧ onNd (f : Int) x = mkL x.lab ((kidsM x).map (fun k => k + (f : Int))) := by
  have e1 : onNd (f : Int) x = mkL x.lab ((kidsM x).map (fun k => k + (f : Int))) := by
    have h2 : onNd (f : Int) x = mkL x.lab ((kidsM x).map (onM (f : Int))) := by
      conv => lhs; rw [h.bare]
      rw [onNd_mk]
    rw [h2]
    congr 1
    apply List.map_congr_left
    intro k hk
    have := h.ahead k hk
    obtain ⟨j, rfl⟩ := Int.eq_ofNat_of_zero_le this.1
    rw [onM_nat _ _ (by omega)]; omega
  refine ⟨?_, e1⟩
  rw [e1]
  exact kids_mkL x.lab _ (by rw [List.length_map]; exact fits_kids x) (fun k hk => by
    rw [List.mem_map] at hk
    obtain ⟨j, hj, rfl⟩ := hk
    have := h.ahead j hj
    omega)

theorem pair_left (x : Lab) (a b : List Nd) {i : Nat} (hi : i < a.length) : (pairM x a b)[i]? = a[i]? := by
  unfold pairM; rw [List.append_assoc, List.getElem?_append_left hi]
theorem pair_mid (x : Lab) (a b : List Nd) {i : Nat} (hi : i < b.length) : (pairM x a b)[a.length + i]? = (b[i]?).map (onNd (a.length : Int)) := by
  unfold pairM
  rw [List.append_assoc, List.getElem?_append_right (by omega), Nat.add_sub_cancel_left, List.getElem?_append_left (by simpa using hi), List.getElem?_map]
theorem pair_last (x : Lab) (a b : List Nd) : (pairM x a b)[a.length + b.length]? = some (mkL x [(a.length : Int) - 1, (a.length : Int) + (b.length : Int) - 1]) := by
  unfold pairM; rw [List.getElem?_append_right (by simp)]; simp
theorem pair_cases (x : Lab) (a b : List Nd) {i : Nat} {n : Nd} (h : (pairM x a b)[i]? = some n) :
    (i < a.length ∧ a[i]? = some n) ∨ (∃ j m, i = a.length + j ∧ j < b.length ∧ b[j]? = some m ∧ n = onNd (a.length : Int) m) ∨ (i = a.length + b.length ∧ n = mkL x [(a.length : Int) - 1, (a.length : Int) + (b.length : Int) - 1]) := by
  have hl := (List.getElem?_eq_some_iff.1 h).1
  rw [pair_len] at hl
  by_cases h1 : i < a.length
  · exact .inl ⟨h1, by rw [pair_left x a b h1] at h; exact h⟩
  by_cases h2 : i < a.length + b.length
  · refine .inr (.inl ⟨i - a.length, b[i - a.length]'(by omega), by omega, by omega, List.getElem?_eq_getElem (by omega), ?_⟩)
    have := pair_mid x a b (i := i - a.length) (by omega)
    rw [show a.length + (i - a.length) = i by omega, h, List.getElem?_eq_getElem (by omega)] at this
    simpa using this
  · have : i = a.length + b.length := by omega
    subst this
    rw [pair_last] at h
    exact .inr (.inr ⟨rfl, by simpa using h.symm⟩)
theorem pair_opL (x : Lab) (a b : List Nd) {k : Int} (h0 : 0 ≤ k) (h1 : k < (a.length : Int)) : opAt (pairM x a b) k = opAt a k := by
  unfold opAt; rw [List.getD, List.getD, pair_left x a b (by omega)]
theorem pair_opR (x : Lab) (a b : List Nd) {k : Int} (h0 : 0 ≤ k) (h1 : k < (b.length : Int)) : opAt (pairM x a b) (k + (a.length : Int)) = opAt b k := by
  unfold opAt
  rw [List.getD, List.getD, show (k + (a.length : Int)).toNat = a.length + k.toNat by omega, pair_mid x a b (by omega)]
  cases h : b[k.toNat]? with
  | none => rw [List.getElem?_eq_none_iff] at h; omega
  | some m => rfl
theorem fits2 {x : Lab} (hbin : binaryB x.op = true) : fitsB x.op 2 = true ∧ x.op ≠ 27 ∧ x.op ≠ 28 := by
  have h : 6 ≤ x.op ∧ x.op ≤ 20 := by simpa [binaryB] using hbin
  have h27 : x.op ≠ 27 := by omega
  have h28 : x.op ≠ 28 := by omega
  have h26 : x.op ≠ 26 := by omega
  have hu : unaryB x.op = false := by
    unfold unaryB
    simp only [Bool.or_eq_false_iff, beq_eq_false_iff_ne]; omega
  exact ⟨by unfold fitsB; simp [h26, h27, h28, hu, hbin], h27, h28⟩
theorem pair_good {x : Lab} {a b : List Nd} (ha : May a) (hb : May b) (hx : plainB x = true) (hbin : binaryB x.op = true) {i : Nat} {n : Nd} (h : (pairM x a b)[i]? = some n) : Good (pairM x a b) i n := by
  have hla := ha.le
  have hlb := hb.le
  have hpa := ha.pos
  have hpb := hb.pos
  rcases pair_cases x a b h with ⟨h1, h2⟩ | ⟨j, m, rfl, hj, h2, rfl⟩ | ⟨rfl, rfl⟩
  · have g := ha.node i n h2
    refine ⟨g.plain, g.bare, g.ahead, ?_⟩
    rw [List.map_congr_left (g := opAt a) (fun k hk => pair_opL x a b (g.ahead k hk).1 (by have := (g.ahead k hk).2; omega))]
    exact g.args
  · have g := hb.node j m h2
    obtain ⟨k1, k2⟩ := kids_on g a.length (by omega)
    refine ⟨g.plain, by rw [k1]; exact k2, ?_, ?_⟩
    · rw [k1]
      intro k hk
      rw [List.mem_map] at hk
      obtain ⟨q, hq, rfl⟩ := hk
      have := g.ahead q hq
      omega
    · rw [k1, List.map_map]
      rw [List.map_congr_left (f := opAt (pairM x a b) ∘ fun k => k + (a.length : Int)) (g := opAt b) (fun k hk => pair_opR x a b (g.ahead k hk).1 (by have := (g.ahead k hk).2; omega))]
      exact g.args
  · obtain ⟨f2, f27, f28⟩ := fits2 hbin
    refine good_mk hx f2 (by intro k hk; simp at hk; omega) ?_
    simp only [List.map_cons, List.map_nil]
    have o1 : opAt (pairM x a b) ((a.length : Int) - 1) ≠ 28 := by
      rw [pair_opL x a b (by omega) (by omega)]
      have := ha.last
      unfold opAt
      rwa [show ((a.length : Int) - 1).toNat = a.length - 1 by omega]
    have o2 : opAt (pairM x a b) ((a.length : Int) + (b.length : Int) - 1) ≠ 28 := by
      rw [show (a.length : Int) + (b.length : Int) - 1 = ((b.length : Int) - 1) + (a.length : Int) by omega, pair_opR x a b (by omega) (by omega)]
      have := hb.last
      unfold opAt
      rwa [show ((b.length : Int) - 1).toNat = b.length - 1 by omega]
    have q1 : (opAt (pairM x a b) ((a.length : Int) - 1) == 28) = false := by rw [beq_eq_false_iff_ne]; exact o1
    have q2 : (opAt (pairM x a b) ((a.length : Int) + (b.length : Int) - 1) == 28) = false := by rw [beq_eq_false_iff_ne]; exact o2
    have q3 : (x.op == 27) = false := by rw [beq_eq_false_iff_ne]; exact f27
    have q4 : (x.op == 28) = false := by rw [beq_eq_false_iff_ne]; exact f28
    simp [argsL, q1, q2, q3, q4]
theorem pair_ahead {x : Lab} {a b : List Nd} (ha : May a) (hb : May b) (hx : plainB x = true) (hbin : binaryB x.op = true) : Ahead (pairM x a b) := fun i n hn => (pair_good ha hb hx hbin hn).ahead
/-- The second one's trees stand as they stood. -/
theorem pair_treeR {x : Lab} {a b : List Nd} (ha : May a) (hb : May b) (hx : plainB x = true) (hbin : binaryB x.op = true) : ∀ i, i < b.length → tree (pairM x a b) (a.length + i) = tree b i := by
  have hla := ha.le
  have hlb := hb.le
  intro i
  induction i using Nat.strongRecOn with
  | ind i ih =>
    intro hi
    have hn := of_getD hi
    have hm : (pairM x a b)[a.length + i]? = some (onNd (a.length : Int) (b.getD i default)) := by rw [pair_mid x a b hi, hn]; rfl
    have g := hb.node i _ hn
    rw [tree_eq (pair_ahead ha hb hx hbin) hm, tree_eq hb.ahead hn, (kids_on g a.length (by omega)).1, List.map_map]
    congr 1
    apply List.map_congr_left
    intro k hk
    have hk2 := g.ahead k hk
    have := ih k.toNat (by omega) (by omega)
    rw [← this]
    show tree _ (k + (a.length : Int)).toNat = _
    congr 1; omega
theorem pair_treeL {x : Lab} {a b : List Nd} (ha : May a) (hb : May b) (hx : plainB x = true) (hbin : binaryB x.op = true) {i : Nat} (hi : i < a.length) : tree (pairM x a b) i = tree a i := by
  have h := ha.ahead
  unfold pairM; rw [List.append_assoc]; exact tree_append h hi
theorem pair_root {x : Lab} {a b : List Nd} (ha : May a) (hb : May b) (hx : plainB x = true) (hbin : binaryB x.op = true) : root (pairM x a b) = .l2 x (root a) (root b) := by
  have hpa := ha.pos
  have hpb := hb.pos
  obtain ⟨f2, f27, f28⟩ := fits2 hbin
  unfold root
  rw [pair_len, Nat.add_sub_cancel, tree_eq (pair_ahead ha hb hx hbin) (pair_last x a b), mkL_lab, kids_mkL x [_, _] f2 (by intro k hk; simp at hk; omega)]
  simp only [List.map_cons, List.map_nil, mkT]
  rw [show ((a.length : Int) - 1).toNat = a.length - 1 by omega, show ((a.length : Int) + (b.length : Int) - 1).toNat = a.length + (b.length - 1) by omega, pair_treeL ha hb hx hbin (by omega), pair_treeR ha hb hx hbin _ (by omega)]
theorem pair_depth {x : Lab} {a b : List Nd} (ha : May a) (hb : May b) (hx : plainB x = true) (hbin : binaryB x.op = true) : depthM (pairM x a b) = max (depthM a) (depthM b) + 1 := by
  rw [depth_tree (pair_ahead ha hb hx hbin) (by rw [pair_len]; omega), ← ha.root_depth, ← hb.root_depth]
  show (root (pairM x a b)).depth = _
  rw [pair_root ha hb hx hbin]; rfl
theorem pair_uses {x : Lab} {a b : List Nd} (ha : May a) (hb : May b) (hx : plainB x = true) (hbin : binaryB x.op = true) {j : Nat} (hj : j + 1 < (pairM x a b).length) : usesM (pairM x a b) j = 1 := by
  have hla := ha.le
  have hlb := hb.le
  have hpa := ha.pos
  have hpb := hb.pos
  obtain ⟨f2, f27, f28⟩ := fits2 hbin
  rw [pair_len] at hj
  unfold usesM pairM
  rw [List.flatMap_append, List.flatMap_append, List.count_append, List.count_append, List.flatMap_cons, List.flatMap_nil, List.append_nil, kids_mkL x [_, _] f2 (by intro k hk; simp at hk; omega)]
  have hcb : (b.map (onNd (a.length : Int))).flatMap kidsM = (b.flatMap kidsM).map (fun k => k + (a.length : Int)) := by
    rw [List.flatMap_map, List.map_flatMap, List.flatMap_def, List.flatMap_def]
    congr 1
    apply List.map_congr_left
    intro m hm
    obtain ⟨i, hi⟩ := List.mem_iff_getElem?.1 hm
    exact (kids_on (hb.node i m hi) a.length (by have := (List.getElem?_eq_some_iff.1 hi).1; omega)).1
  rw [hcb]
  have zero_of : ∀ {e : List Nd} (he : May e) (k : Int), (k < 0 ∨ (e.length : Int) - 1 ≤ k) → (e.flatMap kidsM).count k = 0 := fun {e} he k hk => by
    rw [List.count_eq_zero]
    intro hm
    rw [List.mem_flatMap] at hm
    obtain ⟨n, hn, hk2⟩ := hm
    obtain ⟨i, hi⟩ := List.mem_iff_getElem?.1 hn
    have h1 := he.ahead i n hi k hk2
    have h2 := (List.getElem?_eq_some_iff.1 hi).1
    omega
  have cnt : ((b.flatMap kidsM).map (fun k => k + (a.length : Int))).count (j : Int) = (b.flatMap kidsM).count ((j : Int) - (a.length : Int)) := by
    have h : ∀ l : List Int, (l.map (fun k => k + (a.length : Int))).count (j : Int) = l.count ((j : Int) - (a.length : Int)) := fun l => by
      induction l with
      | nil => rfl
      | cons p r ih =>
        rw [List.map_cons, List.count_cons, List.count_cons, ih]
        congr 1
        by_cases hp : p = (j : Int) - (a.length : Int)
        · rw [if_pos (by rw [beq_iff_eq]; omega), if_pos (by rw [beq_iff_eq]; exact hp)]
        · rw [if_neg (by rw [beq_iff_eq]; omega), if_neg (by rw [beq_iff_eq]; exact hp)]
    exact h _
  rw [cnt]
  simp only [List.count_cons, List.count_nil, beq_iff_eq]
  by_cases h1 : j + 1 < a.length
  · have := ha.uses j h1
    unfold usesM at this
    rw [this, zero_of hb _ (by omega), if_neg (by omega), if_neg (by omega)]
  by_cases h2 : j + 1 = a.length
  · rw [zero_of ha _ (by omega), zero_of hb _ (by omega), if_neg (by omega), if_pos (by omega)]
  by_cases h3 : j + 1 < a.length + b.length
  · have := hb.uses (j - a.length) (by omega)
    unfold usesM at this
    rw [zero_of ha _ (by omega), show ((j : Int) - (a.length : Int)) = ((j - a.length : Nat) : Int) by omega, this, if_neg (by omega), if_neg (by omega)]
  · rw [zero_of ha _ (by omega), zero_of hb _ (by omega), if_pos (by omega), if_neg (by omega)]
theorem pair_may {x : Lab} {a b : List Nd} (ha : May a) (hb : May b) (hx : plainB x = true) (hbin : binaryB x.op = true) (hl : a.length + b.length + 1 ≤ 5000) (h1 : depthM a < 40) (h2 : depthM b < 40) : May (pairM x a b) := by
  obtain ⟨f2, f27, f28⟩ := fits2 hbin
  refine ⟨by rw [pair_len]; omega, by rw [pair_len]; exact hl, fun i n hn => pair_good ha hb hx hbin hn, fun j hj => pair_uses ha hb hx hbin hj, ?_, by rw [pair_depth ha hb hx hbin]; omega⟩
  rw [pair_len, Nat.add_sub_cancel, getD_of (pair_last x a b), mkL_op]; exact f28
end Go.Proofs.Ytndmhbocfmnhgaa.Tr

/- The function live of the statements of layer inits: its sources, what they are. Conditions: none. -/
namespace Go.Proofs.Ytndmhbocfmnhgaa.In
open Go.ChangeShapes Go.WideShapes Go.ChangeAt Go.RowKit
open Go.Proofs.Ytndmhbocfmnhgaa.Ex Go.Proofs.Ytndmhbocfmnhgaa.Pg Go.Proofs.Ytndmhbocfmnhgaa.Rp
open Go.Proofs.Ytndmhbocfmnhgaa.Tr (str ret_bool ret_int Bytes Nd Nodes T Lab)
set_option linter.unusedVariables false
set_option linter.unusedSimpArgs false

def s1 : Bytes := [49, 32, 43, 32, 112, 114, 101, 32, 97]
def s2 : Bytes := [48, 32, 45, 62, 32, 112, 114, 101, 32, 97]
def s3 : Bytes := [112, 114, 101, 32, 112, 114, 101, 32, 97]
def s4 : Bytes := [110, 111, 100, 101, 32, 102, 40, 97, 58, 105, 110, 116, 41, 32, 114, 101, 116, 117, 114, 110, 115, 40, 99, 58, 105, 110, 116, 41, 32, 108, 101, 116, 32, 99, 61, 112, 114, 101, 32, 97, 59, 32, 116, 101, 108, 32, 109, 97, 105, 110, 32, 102, 59]
def tPre : T := .l1 ⟨21, 0, []⟩ (.l0 ⟨3, 0, [97]⟩)
def t1 : T := .l2 ⟨14, 0, []⟩ (.l0 ⟨1, 1, []⟩) tPre
def t2 : T := .l2 ⟨19, 0, []⟩ (.l0 ⟨1, 0, []⟩) tPre
def t3 : T := .l1 ⟨21, 0, []⟩ tPre
theorem read1 : readM s1 = (t1.flat 0, 0, 0) := by decide +kernel
theorem read2 : readM s2 = (t2.flat 0, 0, 0) := by decide +kernel
theorem read3 : readM s3 = (t3.flat 0, 0, 0) := by decide +kernel
theorem ofM_flat (t : T) (hok : t.okB = true) (hr : t.lab.op ≠ 28) (hs : t.size ≤ 5000) (hd : t.depth ≤ 40) : ofM (t.flat 0) = (match inT t with | some v => ((v : Int), 0) | none => (0, 11)) := by
  unfold ofM; rw [if_pos (Tr.may_yes (Tr.may_flat t hok hr hs hd)), Tr.root_flat t hok]; cases inT t <;> rfl
theorem of1 : ofM (t1.flat 0) = (1, 0) := by rw [ofM_flat t1 (by decide) (by decide) (by decide) (by decide)]; rfl
theorem of2 : ofM (t2.flat 0) = (0, 0) := by rw [ofM_flat t2 (by decide) (by decide) (by decide) (by decide)]; rfl
theorem of3 : ofM (t3.flat 0) = (0, 11) := by rw [ofM_flat t3 (by decide) (by decide) (by decide) (by decide)]; rfl
theorem ofPre : ofM (tPre.flat 0) = (1, 0) := by rw [ofM_flat tPre (by decide) (by decide) (by decide) (by decide)]; rfl
theorem of0 : ofM [] = (0, 1) := ofM_not (Tr.may_no (fun h => absurd h.pos (by simp)))
def rd4 : Rd := ⟨(Lx.lexM s4).toks, 0, 0, 0, 0⟩
def a1 := unF rowMax [] rd4
def a2 : Rd := (needQ wMain a1.2).2
def a3 := nameP a2
def a4 : Rd := (needQ sSemi a3.2).2
def a5 := takeQ wFallback a4
def u4 : Unt := ⟨false, [102], [⟨[97], 2⟩], ⟨[99], 2⟩, [], [⟨[99], tPre.flat 0⟩], []⟩
theorem k4a : a1.1 = [u4] := by decide +kernel
theorem k4b : a3.1 = [102] ∧ a5.1 = false ∧ a5.2.code = 0 ∧ ¬ a5.2.next < a5.2.l.length := by decide +kernel
theorem k4n : (Lx.lexM s4).toks.length = 23 := by decide +kernel
theorem lex4 : Lx.lexM s4 = .ok (Lx.lexM s4).toks := by
  cases h : Lx.lexM s4 with
  | ok l => rfl
  | bad c a => have := k4n; rw [h] at this; cases this
theorem check4 : checkF 0 [u4] = (11, 0) := by
  have h : unitM u4 = 11 := by
    rw [unitM_plain rfl]
    show firstE [tPre.flat 0] = 11
    have hb : begunM (tPre.flat 0) = 11 := by unfold begunM; rw [ofPre]; rfl
    unfold firstE; rw [hb]; rfl
  unfold checkF; rw [h]; rfl
theorem read_at {S : ByteArray} {s : Bytes} {x : List Nd × Int × Int} {w : World} (hS : S = str s) (t : readM s = x) (hn : s.length ≤ 1000000) (hl : ∀ l, Lx.lexM s = .ok l → l.length ≤ 20000) : Calls Try.prog 20 #[.string S] w (ReadTo w x) := by
  subst hS
  have h := Rf.rread_any (str s) w (by rw [Tr.str_size]; unfold maxLen; omega) (by rw [Tr.str_toList]; exact hl)
  rw [Tr.str_toList, t] at h; exact h
theorem short_lex {s : Bytes} (h : (Lx.lexM s).toks.length ≤ 20000) : ∀ l, Lx.lexM s = .ok l → l.length ≤ 20000 := fun l hl => by rw [hl] at h; exact h
theorem sh1 : (Lx.lexM s1).toks.length ≤ 20000 := by decide +kernel
theorem sh2 : (Lx.lexM s2).toks.length ≤ 20000 := by decide +kernel
theorem sh3 : (Lx.lexM s3).toks.length ≤ 20000 := by decide +kernel
theorem pair_eta {α β : Type} (x : α × β) : x = (x.1, x.2) := rfl
theorem g40 : unF rowMax [] ⟨(Lx.lexM s4).toks, 0, 0, 0, 0⟩ = (a1.1, a1.2) := pair_eta a1
theorem g41 : (needQ wMain a1.2).2 = a2 := by unfold a2; rfl
theorem g42 : nameP a2 = (a3.1, a3.2) := pair_eta a3
theorem g43 : (needQ sSemi a3.2).2 = a4 := by unfold a4; rfl
theorem g44 : takeQ wFallback a4 = (false, a5.2) := (pair_eta a5).trans (by rw [k4b.2.1])
theorem parse4 (w : World) (S : ByteArray) (hS : S = str s4) : Calls Try.prog 21 #[.string S] w (ParG w (⟨[u4], [102], []⟩, 0, 0)) := by
  subst hS
  have hl : Lx.lexM (str s4).toList = .ok (Lx.lexM s4).toks := by rw [Tr.str_toList]; exact lex4
  have h := parse_ok0 (str s4) w (by rw [Tr.str_size]; exact Nat.le_trans (show s4.length ≤ 1000 by decide) (by unfold maxLen; omega)) (Lx.lexM s4).toks hl (by rw [k4n]; omega) a1.1 a3.1 [] a1.2 a2 a3.2 a4 a5.2 a5.2 a5.2 g40 g41 g42 g43 g44 rfl k4b.2.2.1 k4b.2.2.2
  rw [k4a, k4b.1] at h
  exact h
end Go.Proofs.Ytndmhbocfmnhgaa.In

/- The function live of the statements of layer inits answers true and leaves what was there as it was. Conditions: none. -/
namespace Go.Proofs.Ytndmhbocfmnhgaa.In
open Go.ChangeShapes Go.WideShapes Go.ChangeAt Go.RowKit
open Go.Proofs.Ytndmhbocfmnhgaa.Ex Go.Proofs.Ytndmhbocfmnhgaa.Pg Go.Proofs.Ytndmhbocfmnhgaa.Rp
open Go.Proofs.Ytndmhbocfmnhgaa.Tr (str ret_bool ret_int Bytes Nd Nodes T Lab)
set_option linter.unusedVariables false
set_option linter.unusedSimpArgs false

attribute [local go_sem ↓] Lx.eql_fault Lx.guard_fault
theorem of_lit {v : Value} {e : List Nd} {x : Int × Int} {w : World} (hv : Nodes w v e) (h : ofM e = x) : Calls Try.prog 10 #[v] w (NodePost w x) := by subst h; exact of_any v e w hv
theorem check_lit {us : List Unt} {uv : Value} {S B : ByteArray} {m b : Bytes} {x : Int × Int} {w : World} (hS : S = str m) (hB : B = str b) (hu : RowR 58 8 UntV w us uv) (hi0 : ∀ u ∈ us, u.items = []) (h : checkF 0 us = x) :
    Calls Try.prog 13 #[.agg #[uv, .string S, .string B]] w (fun e w' => e = .returned (.agg #[.int .i64 x.1, .int .i64 x.2]) ∧ Below w.heap.size w w') := by
  subst h; subst hS; subst hB; exact check_plain us uv m b w hu hi0
theorem fault_same (a : Int) : Lx.faultB a a 0 0 = true := by unfold Lx.faultB; simp
set_option maxRecDepth 100000 in
set_option maxHeartbeats 8000000 in
theorem live_any (w : World) : Calls Try.prog 9 #[] w (fun e w' => e = .returned (.bool true) ∧ Below w.heap.size w w') := by
  have hf1 := fault_same 11
  have hf0 := fault_same 0
  go_enter Try.func9, Try.ntmps9
  go_wp2_with fail
  refine (read_at (s := s1) rfl read1 (by decide) (short_lex sh1)).mono ?_
  rintro e w1 ⟨v1, rfl, hp1, hb1⟩
  obtain ⟨wa, hwa⟩ : ∃ W, w1.alloc (.cells #[.int .i64 0, .int .i64 0] 34) = W := ⟨_, rfl⟩
  have hba : Below w1.heap.size w1 wa := hwa ▸ below_new w1 _
  have HPa := Lib.hid (hp1.below hba)
  have HBa := Lib.hid (hb1.trans (hba.mono hb1.size))
  obtain ⟨A1, n1, c1, rfl, y1, y2⟩ := pt_form hp1
  have HWA := Lib.hid hwa
  clear hp1 hb1 hba hwa
  go_wp2_with fail
  rw [HWA.out]
  refine (read_at (s := s2) rfl read2 (by decide) (short_lex sh2)).mono ?_
  rintro e w2 ⟨v2, rfl, hp2, hb2⟩
  obtain ⟨wb, hwb⟩ : ∃ W, w2.alloc (.cells #[.int .i64 0, .int .i64 0] 34) = W := ⟨_, rfl⟩
  have hbb : Below w2.heap.size w2 wb := hwb ▸ below_new w2 _
  have hb2' := hb2.trans (hbb.mono hb2.size)
  have HPb := Lib.hid (hp2.below hbb)
  have HPab := Lib.hid (HPa.out.below hb2')
  have HBb := Lib.hid (HBa.out.trans (hb2'.mono HBa.out.size))
  obtain ⟨A2, n2, c2, rfl, y3, y4⟩ := pt_form hp2
  have HWB := Lib.hid hwb
  clear hp2 hb2 hbb hb2' hwb
  go_wp2_with fail
  rw [HWB.out]
  refine (read_at (s := s3) rfl read3 (by decide) (short_lex sh3)).mono ?_
  rintro e w3 ⟨v3, rfl, hp3, hb3⟩
  obtain ⟨wc, hwc⟩ : ∃ W, w3.alloc (.cells #[.int .i64 0, .int .i64 0] 34) = W := ⟨_, rfl⟩
  have hbc : Below w3.heap.size w3 wc := hwc ▸ below_new w3 _
  have hb3' := hb3.trans (hbc.mono hb3.size)
  have HP3 := Lib.hid (hp3.below hbc)
  have HP1 := Lib.hid (HPab.out.below hb3')
  have HP2 := Lib.hid (HPb.out.below hb3')
  have HB3 := Lib.hid (HBb.out.trans (hb3'.mono HBb.out.size))
  obtain ⟨A3, n3, c3, rfl, y5, y6⟩ := pt_form hp3
  have HWC := Lib.hid hwc
  clear hp3 hb3 hbc hb3' hwc
  go_wp2_with fail
  rw [HWC.out]
  refine (of_lit HP1.out.1 of1).mono ?_
  rintro e w4 ⟨rfl, hb4⟩
  have HP24 := Lib.hid (HP2.out.below hb4)
  have HP34 := Lib.hid (HP3.out.below hb4)
  have HB4 := Lib.hid (HB3.out.trans (hb4.mono HB3.out.size))
  clear hb4
  go_wp2_with fail
  refine (of_lit HP24.out.1 of2).mono ?_
  rintro e w5 ⟨rfl, hb5⟩
  have HP35 := Lib.hid (HP34.out.below hb5)
  have HB5 := Lib.hid (HB4.out.trans (hb5.mono HB4.out.size))
  clear hb5
  go_wp2_with fail
  refine (of_lit HP35.out.1 of3).mono ?_
  rintro e w6 ⟨rfl, hb6⟩
  have HB6 := Lib.hid (HB5.out.trans (hb6.mono HB5.out.size))
  clear hb6
  go_wp2_with fail
  refine (of_lit (e := []) (PtW.nil w6 ⟨[], 0, 0⟩ rfl).1 of0).mono ?_
  rintro e w7 ⟨rfl, hb7⟩
  have HB7 := Lib.hid (HB6.out.trans (hb7.mono HB6.out.size))
  clear hb7
  go_wp2_with fail
  refine (parse4 _ _ rfl).mono ?_
  rintro e w8 ⟨uv, rfl, hu, hb8⟩
  have HU8 := Lib.hid hu
  have HB8 := Lib.hid (HB7.out.trans (hb8.mono HB7.out.size))
  obtain ⟨A4, n4, c4, rfl, y7, y8⟩ := row_form hu
  have N9 := two_new w8 (.cells #[.slice A4 n4 c4, .string (str [102]), .string (str [])] 31) (.cells #[.int .i64 0, .int .i64 0] 34)
  obtain ⟨w9, hw9⟩ : ∃ W, (w8.alloc (.cells #[.slice A4 n4 c4, .string (str [102]), .string (str [])] 31)).alloc (.cells #[.int .i64 0, .int .i64 0] 34) = W := ⟨_, rfl⟩
  rw [hw9] at N9
  have HU9 := Lib.hid (HU8.out.stay (Stay.below (P := fun _ => False) N9.1) (fun h => h) (fun a x hx => UntV.stay (Stay.below (P := fun _ => False) N9.1) ⟨fun h => h, fun h => h, fun h => h, fun h => h, fun h => h⟩ a x hx))
  have HB9 := Lib.hid (HB8.out.trans (N9.1.mono HB8.out.size))
  have p0 : w9.cell? ⟨w8.heap.size, 0, none⟩ = some (.slice A4 n4 c4) := (cell_at N9.2.1 0).trans rfl
  have p1 : w9.cell? ⟨w8.heap.size, 1, none⟩ = some (.string (str [102])) := (cell_at N9.2.1 1).trans rfl
  have p2 : w9.cell? ⟨w8.heap.size, 2, none⟩ = some (.string (str [])) := (cell_at N9.2.1 2).trans rfl
  have lp := lt_of_block N9.2.1
  have HW9 := Lib.hid hw9
  clear hu hb8 N9 hw9
  go_wp2_with fail
  rw [HW9.out]
  refine (check_lit (m := [102]) (b := []) rfl rfl HU9.out (fun u hu => by simp at hu; subst hu; rfl) check4).mono ?_
  rintro e w10 ⟨rfl, hb10⟩
  have HB10 := Lib.hid (HB9.out.trans (hb10.mono HB9.out.size))
  clear hb10
  go_wp2_with fail
  refine (check_lit (m := []) (b := []) (us := []) (x := (0, 0)) rfl rfl (RowR.nil _ _ _ _) (fun u hu => by simp at hu) rfl).mono ?_
  rintro e w11 ⟨rfl, hb11⟩
  have HB11 := Lib.hid (HB10.out.trans (hb11.mono HB10.out.size))
  clear hb11
  go_wp2
  go_ret
  exact ⟨rfl, HB11.out⟩
end Go.Proofs.Ytndmhbocfmnhgaa.In

/- What two expressions are joined to, and one under a Pre, and from which instant on these are; parts. Conditions: the expressions may be. -/
namespace Go.Proofs.Ytndmhbocfmnhgaa.In
open Go.RowKit Go.Proofs.Ytndmhbocfmnhgaa.Tr
set_option linter.unusedVariables false
set_option linter.unusedSimpArgs false

theorem on_zero {e : List Nd} {i : Nat} {x : Nd} (h : Tr.Good e i x) (hi : i ≤ 1000000) : onNd 0 x = x := by
  have := (kids_on h 0 (by omega)).2
  rw [Int.natCast_zero] at this
  rw [this]
  conv => rhs; rw [h.bare]
  congr 1
  conv => rhs; rw [← List.map_id (kidsM x)]
  apply List.map_congr_left
  intro k _
  simp
theorem may_zero {e : List Nd} (h : May e) : e.map (onNd 0) = e := by
  conv => rhs; rw [← List.map_id e]
  apply List.map_congr_left
  intro x hx
  obtain ⟨i, hi⟩ := List.mem_iff_getElem?.1 hx
  have hl := h.le
  have := (List.getElem?_eq_some_iff.1 hi).1
  exact on_zero (h.node i x hi) (by omega)
theorem join_pair {a b : List Nd} (ha : May a) (hb : May b) (o : Int) (hbin : binaryB o = true) : joinM o 0 [] [a, b] = pairM ⟨o, 0, []⟩ a b := by
  obtain ⟨f2, f27, f28⟩ := fits2 (x := ⟨o, 0, []⟩) hbin
  simp only at f27 f28
  have pa := ha.pos
  have pb := hb.pos
  have ea : a.isEmpty = false := by cases a with
    | nil => simp at pa
    | cons _ _ => rfl
  have eb : b.isEmpty = false := by cases b with
    | nil => simp at pb
    | cons _ _ => rfl
  have hk : (kidsM (overM o 0 [] [])).length = 2 := by
    have hb' : 6 ≤ o ∧ o ≤ 20 := by simpa [binaryB] using hbin
    rw [kidsM_bin _ hbin]; rfl
  unfold joinM
  rw [show [a, b].any List.isEmpty = false by simp [ea, eb], if_neg (by simp), if_neg f28, if_neg f27, if_pos (by rw [hk]; rfl)]
  show (layStep (layStep ([], []) a) b).1 ++ [overM o 0 [] (layStep (layStep ([], []) a) b).2] = _
  unfold layStep behindM pairM
  simp only [List.length_nil, Int.natCast_zero, List.nil_append, may_zero ha, List.length_append, List.length_map]
  congr 1
  simp only [overM, mkL, f28, if_false]
  simp
theorem plain_bin {o : Int} (hbin : binaryB o = true) : plainB ⟨o, 0, []⟩ = true := by
  have h : 6 ≤ o ∧ o ≤ 20 := by simpa [binaryB] using hbin
  unfold plainB
  have h1 : o ≠ 1 := by omega
  have h2 : o ≠ 2 := by omega
  have h3 : o ≠ 3 := by omega
  have h25 : o ≠ 25 := by omega
  have h27 : o ≠ 27 := by omega
  simp [h1, h2, h3, h25, h27]; omega
def preL : Lab := ⟨21, 0, []⟩
def preM (e : List Nd) : List Nd := e ++ [mkL preL [(e.length : Int) - 1]]
theorem pre_len (e : List Nd) : (preM e).length = e.length + 1 := by simp [preM]
theorem pre_kids (e : List Nd) (h : 0 < e.length) : kidsM (mkL preL [(e.length : Int) - 1]) = [(e.length : Int) - 1] := kids_mkL _ _ (by simp [preL, fitsB, unaryB]) (by intro k hk; simp at hk; omega)
theorem join_pre {e : List Nd} (h : 0 < e.length) (h0 : e.map (onNd 0) = e) : joinM 21 0 [] [e] = preM e := by
  have ee : e.isEmpty = false := by cases e with
    | nil => simp at h
    | cons _ _ => rfl
  unfold joinM
  rw [show [e].any List.isEmpty = false by simp [ee], if_neg (by simp), if_neg (by decide), if_neg (by decide), if_pos (by rfl)]
  show (layStep ([], []) e).1 ++ [overM 21 0 [] (layStep ([], []) e).2] = _
  unfold layStep behindM preM
  simp only [List.length_nil, Int.natCast_zero, List.nil_append, h0]
  simp [overM, mkL, preL]
theorem pre_get {e : List Nd} {i : Nat} {n : Nd} (h : (preM e)[i]? = some n) : (i < e.length ∧ e[i]? = some n) ∨ (i = e.length ∧ n = mkL preL [(e.length : Int) - 1]) := by
  unfold preM at h
  by_cases hi : i < e.length
  · rw [List.getElem?_append_left hi] at h; exact .inl ⟨hi, h⟩
  · rw [List.getElem?_append_right (by omega)] at h
    have h1 : i - e.length = 0 := by
      have := (List.getElem?_eq_some_iff.1 h).1
      simp at this; omega
    rw [h1] at h
    simp at h
    exact .inr ⟨by omega, h.symm⟩
theorem pre_ahead {e : List Nd} (h : Ahead e) (hp : 0 < e.length) : Ahead (preM e) := fun i n hn k hk => by
  rcases pre_get hn with ⟨_, h1⟩ | ⟨rfl, rfl⟩
  · exact h i n h1 k hk
  · rw [pre_kids e hp] at hk; simp at hk; omega
theorem pre_root {e : List Nd} (h : Ahead e) (hp : 0 < e.length) : root (preM e) = .l1 preL (root e) := by
  have hl : (preM e)[e.length]? = some (mkL preL [(e.length : Int) - 1]) := by simp [preM]
  unfold root
  rw [pre_len, show e.length + 1 - 1 = e.length by omega, tree_eq (pre_ahead h hp) hl, pre_kids e hp]
  have e1 : ((e.length : Int) - 1).toNat = e.length - 1 := by omega
  simp only [List.map_cons, List.map_nil, e1, mkL_lab, mkT]
  unfold preM
  rw [tree_append h (by omega)]
theorem pre_depth {e : List Nd} (h : Ahead e) (hp : 0 < e.length) : depthM (preM e) = 1 + depthM e := by
  rw [depth_tree (pre_ahead h hp) (by rw [pre_len]; omega), depth_tree h hp]
  have := pre_root h hp
  unfold root at this
  rw [this]; simp [T.depth]; omega
theorem pre_may {e : List Nd} (h : May e) (hl : e.length + 1 ≤ 5000) (hd : depthM e + 1 ≤ 40) : May (preM e) := by
  have hp := h.pos
  refine ⟨by rw [pre_len]; omega, by rw [pre_len]; exact hl, fun i n hn => ?_, fun j hj => ?_, ?_, by rw [pre_depth h.ahead hp]; omega⟩
  · rcases pre_get hn with ⟨hi, h1⟩ | ⟨rfl, rfl⟩
    · have g := h.node i n h1
      refine ⟨g.plain, g.bare, g.ahead, ?_⟩
      have e1 : (kidsM n).map (Tr.opAt (preM e)) = (kidsM n).map (Tr.opAt e) := by
        apply List.map_congr_left
        intro k hk
        have := g.ahead k hk
        unfold Tr.opAt preM
        simp only [List.getD]
        rw [List.getElem?_append_left (by omega)]
      rw [e1]; exact g.args
    · refine good_mk (by decide) (by simp [preL, fitsB, unaryB]) (by intro k hk; simp at hk; omega) ?_
      have e1 : Tr.opAt (preM e) ((e.length : Int) - 1) = (e.getD (e.length - 1) default).op := by
        unfold Tr.opAt preM
        have e2 : ((e.length : Int) - 1).toNat = e.length - 1 := by omega
        rw [e2]
        simp only [List.getD]
        rw [List.getElem?_append_left (by omega)]
      have := h.last
      simp only [List.map_cons, List.map_nil, e1, argsL, preL]
      simpa using this
  · rw [pre_len] at hj
    have hz : usesM (preM e) j = usesM e j + (kidsM (mkL preL [(e.length : Int) - 1])).count (j : Int) := by
      unfold usesM preM
      rw [List.flatMap_append, List.count_append]; simp
    rw [hz, pre_kids e hp]
    by_cases hj2 : j + 1 < e.length
    · rw [h.uses j hj2, List.count_cons]
      simp; omega
    · have hu : usesM e j = 0 := by
        unfold usesM
        rw [List.count_eq_zero]
        intro hm
        obtain ⟨x, hx, hk⟩ := List.mem_flatMap.1 hm
        obtain ⟨i, hi⟩ := List.mem_iff_getElem?.1 hx
        have h1 := (h.node i x hi).ahead _ hk
        have := (List.getElem?_eq_some_iff.1 hi).1
        omega
      rw [hu, show (e.length : Int) - 1 = (j : Int) by omega]; simp
  · rw [pre_len, show e.length + 1 - 1 = e.length by omega]
    have : (preM e).getD e.length default = mkL preL [(e.length : Int) - 1] := by simp [preM, List.getD]
    rw [this, mkL_op]; simp [preL]
theorem kid_depth (x : Lab) (l : List T) (h : l.length ≤ 3) (t : T) (ht : t ∈ l) : t.depth ≤ (mkT x l).depth := by
  match l, h, ht with
  | [p], _, ht => simp at ht; subst ht; simp [mkT, T.depth]
  | [p, q], _, ht => simp at ht; rcases ht with rfl | rfl <;> simp [mkT, T.depth] <;> omega
  | [p, q, r], _, ht => simp at ht; rcases ht with rfl | rfl | rfl <;> simp [mkT, T.depth] <;> omega
theorem depth_up {e : List Nd} (h : Ahead e) {j : Nat} : ∀ i, i < e.length → j ∈ desc e i → (tree e j).depth ≤ (tree e i).depth := by
  intro i
  induction i using Nat.strongRecOn with
  | ind i ih =>
    intro hi hd
    have hn := of_getD hi
    rw [desc_eq h hn, List.mem_append, List.mem_flatMap] at hd
    rcases hd with ⟨k, hk, hd⟩ | hd
    · have hki := h i _ hn k hk
      have h1 := ih k.toNat (by omega) (by omega) hd
      have h2 := kid_depth (e.getD i default).lab ((kidsM (e.getD i default)).map fun k => tree e k.toNat) (by rw [List.length_map]; exact kids_small _) (tree e k.toNat) (List.mem_map.2 ⟨k, hk, rfl⟩)
      rw [tree_eq h hn]
      omega
    · simp at hd; subst hd; exact Nat.le_refl _
/-- A part that is no list of arguments is from where its tree is on. -/
theorem ofM_part {e : List Nd} (h : Tr.May e) {v : Nat} (hv : inT (root e) = some v) {j : Nat} (hj : j < e.length) (h28 : (e.getD j default).op ≠ 28) : (ofM (subM e (j : Int))).2 = 0 := by
  have hs : subM e (j : Int) = (tree e j).flat 0 := by
    unfold subM; rw [if_pos ⟨may_yes h, by omega, by omega⟩]; simp
  obtain ⟨u, hu⟩ := part_some h hv hj
  have hd : (tree e j).depth ≤ 40 := by
    have h1 := depth_up h.ahead (e.length - 1) (by have := h.pos; omega) (h.all (e.length - 1 - j) j (Nat.le_refl _) hj)
    have h2 := h.deep
    rw [depth_tree h.ahead h.pos] at h2
    omega
  have hz : (tree e j).size ≤ 5000 := by
    have h1 := size_le e h j hj
    have h2 := h.le
    omega
  rw [hs, ofM_flat _ (h.ok j hj) (by rw [tree_op h.ahead hj]; exact h28) hz hd, hu]
theorem ofM_norm {e : List Nd} (h : Tr.May e) : ofM (normB e) = ofM e := by
  have hn : normB e = normM e := Sh.norm_eqN h
  rw [hn]
  unfold ofM
  rw [may_yes h, may_yes h.norm, h.root_norm]
theorem ofM_may {e : List Nd} (h : Tr.May e) : ofM e = (match inT (root e) with | some v => ((v : Int), 0) | none => (0, 11)) := by
  unfold ofM; rw [if_pos (may_yes h)]; cases inT (root e) <;> rfl
end Go.Proofs.Ytndmhbocfmnhgaa.In

