/- New numbers for old ones; the copy of a row. Conditions: none. -/
import Derived.Test.YtcphjehjdhgheaaNtQ
import Derived.Test.YtcphjehjdhgheaaNtP
namespace Go.Proofs.Ytcphjehjdhgheaa.Nt
open Go.ChangeShapes Go.WideShapes Go.ChangeAt Go.RowKit Go.Proofs.Ytcphjehjdhgheaa.Tr
set_option linter.unusedVariables false
set_option linter.unusedSimpArgs false

/-- The new numbers, of the first m that are taken. -/
def numsM (o : List Nat) (n m : Nat) : List Int := (List.range n).map fun j => if j ∈ o.take m then (newOf o j : Int) else 0
theorem nums_len (o : List Nat) (n m : Nat) : (numsM o n m).length = n := by unfold numsM; simp
theorem nums_zero (o : List Nat) (n : Nat) : numsM o n 0 = List.replicate n 0 := by
  unfold numsM
  refine List.ext_getElem? (fun j => ?_)
  rw [List.getElem?_map, List.getElem?_replicate]
  by_cases hj : j < n
  · rw [List.getElem?_range hj, if_pos hj]; simp
  · rw [List.getElem?_eq_none (by simpa using hj), if_neg hj]; rfl
theorem nums_set {o : List Nat} {n m j : Nat} (hnd : o.Nodup) (hj : o[m]? = some j) : (numsM o n m).set j (m : Int) = numsM o n (m + 1) := by
  refine List.ext_getElem? (fun k => ?_)
  rw [List.getElem?_set, nums_len]
  unfold numsM
  rw [List.getElem?_map, List.getElem?_map]
  by_cases hk : k < n
  · rw [List.getElem?_range hk]
    by_cases e : j = k
    · subst e
      have hn : newOf o j = m := by
        have hm := List.mem_of_getElem? hj
        have h1 := List.idxOf_lt_length_of_mem hm
        have e : o[o.idxOf j]? = some j := by rw [List.getElem?_eq_getElem h1, List.getElem_idxOf]
        exact nodup_get hnd (x := j) e hj
      rw [if_pos rfl, if_pos hk]
      simp [List.take_add_one, hj, hn]
    · rw [if_neg e]
      have : (k ∈ o.take (m + 1)) ↔ k ∈ o.take m := by
        rw [List.take_add_one, hj, List.mem_append]; simp; exact fun h => absurd h.symm e
      simp only [Option.map_some, this]
  · rw [List.getElem?_eq_none (by simpa using hk)]
    by_cases e : j = k
    · rw [if_pos e, if_neg (by omega)]; rfl
    · rw [if_neg e]; rfl
theorem nums_get {o : List Nat} {n j : Nat} (hj : j < n) (hm : j ∈ o) : (numsM o n o.length)[j]? = some (newOf o j : Int) := by
  unfold numsM
  rw [List.getElem?_map, List.getElem?_range hj, List.take_length]; simp [hm]
/-- A number by new ones, by the document. -/
theorem turn_any (w : World) (A : Option Addr) (c n : Nat) (o : List Nat) (k : Int) (hI : Ints w (.slice A n c) (numsM o n o.length)) (hk : k = -1 ∨ (0 ≤ k ∧ k < (n : Int))) (hall : ∀ j, j < n → j ∈ o) :
    Calls Try.prog 53 #[.slice A n c, .int .i64 k] w (fun e w' => e = .returned (.int .i64 (toI o k)) ∧ w' = w) := by
  rcases hk with rfl | ⟨h0, h1⟩
  · rw [toI_neg]
    clear hI hall
    go_enter Try.func53, Try.ntmps53
    go_wp2
    go_ret
    exact ⟨rfl, rfl⟩
  · obtain ⟨j, rfl⟩ : ∃ j : Nat, k = (j : Int) := ⟨k.toNat, by omega⟩
    have hjn : j < n := by omega
    obtain ⟨g, of, rfl, hg, c0⟩ := ints_at hI (nums_get hjn (hall j hjn))
    have e : toI o (j : Int) = (newOf o j : Int) := toI_nat o j
    have HE := Lib.hid e
    obtain ⟨v, hv⟩ : ∃ v, newOf o j = v := ⟨_, rfl⟩
    have HV := Lib.hid hv
    rw [hv] at c0
    have hd : ¬ ((j : Int) < 0) := by omega
    have hd1 : (j : Int) < (n : Int) := by omega
    clear hI hall e hv
    go_enter Try.func53, Try.ntmps53
    go_wp2
    go_ret
    exact ⟨by rw [HE.out, HV.out]; rfl, rfl⟩
/-- .. by layer sched. -/
theorem sort1_any (w : World) (A : Option Addr) (c n b : Nat) (o : List Nat) (k : Int) (hb : w.cell? ⟨b, 0, none⟩ = some (.slice A n c)) (hI : Ints w (.slice A n c) (numsM o n o.length)) (hk : k = -1 ∨ (0 ≤ k ∧ k < (n : Int))) (hall : ∀ j, j < n → j ∈ o) :
    Calls Try.prog 51 #[.int .i64 k, .pointer (some ⟨b, 0, none⟩)] w (fun e w' => e = .returned (.int .i64 (toI o k)) ∧ w' = w) := by
  rcases hk with rfl | ⟨h0, h1⟩
  · rw [toI_neg]
    clear hI hall
    go_enter Try.func51, Try.ntmps51
    go_wp2
    go_ret
    exact ⟨rfl, rfl⟩
  · obtain ⟨j, rfl⟩ : ∃ j : Nat, k = (j : Int) := ⟨k.toNat, by omega⟩
    have hjn : j < n := by omega
    obtain ⟨g, of, rfl, hg, c0⟩ := ints_at hI (nums_get hjn (hall j hjn))
    have e : toI o (j : Int) = (newOf o j : Int) := toI_nat o j
    have HE := Lib.hid e
    obtain ⟨v, hv⟩ : ∃ v, newOf o j = v := ⟨_, rfl⟩
    have HV := Lib.hid hv
    rw [hv] at c0
    have hd : ¬ ((j : Int) < 0) := by omega
    have hd1 : (j : Int) < (n : Int) := by omega
    clear hI hall e hv
    go_enter Try.func51, Try.ntmps51
    go_wp2
    go_ret
    exact ⟨by rw [HE.out, HV.out]; rfl, rfl⟩
theorem run_append_none {P : Program} {w : World} (base : Nat) (t ty e : TypeId) (i : TypeInfo) (size c : Nat) (ht : P.underlying t = some (.slice e)) (hi : P.info? e = some i)
    (v : Value) (n : Nat) (xs : List Value) (hown : w.ownsRow base e size v n xs) : (Builtin.append_ #[t, t] ty #[v, .slice none 0 c]).run P w = .ok v w := by
  rcases hown.2 with ⟨rfl, rfl⟩ | ⟨g, cap, cur, rfl, _, _, hnc, _⟩
  · simp [Builtin.append_, run_underlying ht, sizeOf, typeInfo, hi, Builtin.lenOf, Builtin.firstCells]
  · simp [Builtin.append_, run_underlying ht, sizeOf, typeInfo, hi, Builtin.lenOf, Builtin.firstCells, hnc, storeCells]
theorem ints_news {w : World} {A : Option Addr} {n c : Nat} {l : List Int} {ad : Addr} (h : Ints w (.slice A n c) l) (hA : A = some ad) : ∀ (j : Nat) (u : Value), (intsOf l)[j]? = some u → w.cell? (ad.add j) = some u := by
  intro j u hu
  unfold intsOf at hu
  rw [List.getElem?_map] at hu
  obtain ⟨x, hx, rfl⟩ := Option.map_eq_some_iff.1 hu
  obtain ⟨g, o, e, hg, hc⟩ := ints_at h hx
  rw [hA] at e; injection e with e; subst e
  by_cases e0 : j = 0
  · subst e0; simpa [Addr.add] using hc
  · simpa [Addr.add, e0] using hc
/-- A row of numbers put behind an empty one of the call's own: a copy. -/
theorem copy_ints (w : World) (base : Nat) (v0 : Value) (h0 : w.ownsRow base 3 1 v0 0 (intsOf [])) (A : Option Addr) (n c : Nat) (l : List Int) (hn : n = l.length) (hI : Ints w (.slice A n c) l) (hm : n ≤ 1000000) (hb : base ≤ w.heap.size) :
    ∃ v' w', (Builtin.append_ #[23, 23] 23 #[v0, .slice A n c]).run Try.prog w = .ok v' w' ∧ w'.ownsRow base 3 1 v' n (intsOf l) ∧ w.grownBy w' v0.ownBlock := by
  obtain ⟨i0, hi0, hz0, hz1, hz2⟩ := info_parts info3
  cases A with
  | none =>
    have h0' : n = 0 := by
      by_cases hz : n = 0
      · exact hz
      · obtain ⟨x, hx⟩ : ∃ x, l[0]? = some x := ⟨_, List.getElem?_eq_getElem (by omega)⟩
        obtain ⟨g, o, e, -⟩ := ints_at hI hx
        cases e
    subst h0'
    have : l = [] := List.length_eq_zero_iff.1 hn.symm
    subst this
    exact ⟨v0, w, run_append_none base 23 23 3 i0 1 c Try.underlying23 hi0 v0 0 _ h0, h0, World.grownBy.refl _ _⟩
  | some ad =>
    obtain ⟨v', w', hr, h2, h3, h4, h5⟩ := run_append_own_at (P := Try.prog) w base 23 23 3 i0 (.int .i64 0) 1 8 Try.underlying23 hi0 hz0 hz1 hz2 rfl (by decide) v0 0 (intsOf []) h0 ad n c (intsOf l) (by unfold intsOf; simp; omega) (ints_news hI rfl) (fun u hu => by
      unfold intsOf at hu
      obtain ⟨x, _, rfl⟩ := List.mem_map.1 hu
      rfl) (by unfold maxLen; omega) (by omega) hb
    refine ⟨v', w', hr, ?_, h3⟩
    have e : intsOf [] ++ intsOf l = intsOf l := by unfold intsOf; simp
    rw [e, Nat.zero_add] at h2
    exact h2
/-- An append whose run is known. -/
theorem append_by {P : Program} {w w' : World} {ops : Array Oper} {rest : List Oper} {o : Oper} {a : Act} {Q : Exit → Act → World → Prop} (hgd : o.guard = none) (s x : Operand) (t : TypeId)
    (ho : o.op = .call { callee := .builtin .append, args := #[s, x], argTypes := #[t, t] }) (v1 v2 v' : Value) (hs : a.eval s = v1) (hx : a.eval x = v2) (hrun : (Builtin.append_ #[t, t] o.type #[v1, v2]).run P w = .ok v' w')
    (h : wpList P ops Q rest (a.put o.dst v') w') : wpList P ops Q (o :: rest) a w := by
  refine wpList_plain hgd fun K hK => ?_
  unfold Oper.wp
  simp [execOp, ho, resolve, invoke, builtin, hs, hx, hrun, Result.andThen]
  exact hK _ _ h
/-- One operator in a box. -/
structure OpBox (w : World) (b T : Nat) (x : Op5) : Prop where
  cell : w.heap[b]? = some (.cells #[.int .i64 x.op, .int .i64 x.a, .int .i64 x.b, .int .i64 x.c, .int .i64 x.n] T (0, 0))
theorem OpBox.lt {w : World} {b T : Nat} {x : Op5} (h : OpBox w b T x) : b < w.heap.size := lt_of_block h.cell
theorem OpBox.ats {w : World} {b T : Nat} {x : Op5} (h : OpBox w b T x) : w.cell? ⟨b, 0, none⟩ = some (.int .i64 x.op) ∧ w.cell? ⟨b, 1, none⟩ = some (.int .i64 x.a) ∧ w.cell? ⟨b, 2, none⟩ = some (.int .i64 x.b) ∧ w.cell? ⟨b, 3, none⟩ = some (.int .i64 x.c) ∧ w.cell? ⟨b, 4, none⟩ = some (.int .i64 x.n) ∧
    w.frozen? ⟨b, 1, none⟩ = false ∧ w.frozen? ⟨b, 2, none⟩ = false ∧ w.frozen? ⟨b, 3, none⟩ = false := by
  have := h.cell
  refine ⟨?_, ?_, ?_, ?_, ?_, ?_, ?_, ?_⟩ <;> simp [World.cell?, World.frozen?, this]
theorem OpBox.setA {w : World} {b T : Nat} {x : Op5} (h : OpBox w b T x) (y : Int) : OpBox (w.setCell ⟨b, 1, none⟩ (.int .i64 y)) b T ⟨x.op, y, x.b, x.c, x.n⟩ := ⟨by have := h.cell; simp [World.setCell, Array.getElem?_modify, this]⟩
theorem OpBox.setB {w : World} {b T : Nat} {x : Op5} (h : OpBox w b T x) (y : Int) : OpBox (w.setCell ⟨b, 2, none⟩ (.int .i64 y)) b T ⟨x.op, x.a, y, x.c, x.n⟩ := ⟨by have := h.cell; simp [World.setCell, Array.getElem?_modify, this]⟩
theorem OpBox.setC {w : World} {b T : Nat} {x : Op5} (h : OpBox w b T x) (y : Int) : OpBox (w.setCell ⟨b, 3, none⟩ (.int .i64 y)) b T ⟨x.op, x.a, x.b, y, x.n⟩ := ⟨by have := h.cell; simp [World.setCell, Array.getElem?_modify, this]⟩
end Go.Proofs.Ytcphjehjdhgheaa.Nt
