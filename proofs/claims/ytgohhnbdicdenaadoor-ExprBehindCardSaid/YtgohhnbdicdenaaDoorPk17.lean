/- The method fromRight of a reader: its lists and its second loop. Conditions: level's contract at less fuel; a reader lies in memory. -/
import Derived.Test.YtgohhnbdicdenaaDoorPk16
namespace Go.Proofs.YtgohhnbdicdenaaDoor.Ex
open Go.ChangeShapes Go.WideShapes Go.ChangeAt Go.RowKit
open Go.Proofs.YtgohhnbdicdenaaDoor.Tr (str ret_bool ret_int Bytes Nd joinM roomM own_block)
set_option linter.unusedVariables false
set_option linter.unusedSimpArgs false

theorem info84 : (Tryd.prog.info? 84).map (fun i => (i.zero, i.size, i.bytes)) = some (some (.agg #[.int .i64 0, .bool false]), 2, 16) := by kernel_rfl
theorem info64 : (Tryd.prog.info? 64).map (fun i => (i.zero, i.size, i.bytes)) = some (some (.agg #[.slice none 0 0, .int .i64 0, .int .i64 0]), 3, 40) := by kernel_rfl
def sgCells (s : Int × Bool) : List Value := [.int .i64 s.1, .bool s.2]
def sgsOf (l : List (Int × Bool)) : List Value := l.flatMap sgCells
theorem sgs_len (l : List (Int × Bool)) : (sgsOf l).length = l.length * 2 := by
  induction l with
  | nil => rfl
  | cons a r ih => show ([_, _] ++ sgsOf r).length = _; rw [List.length_append, ih]; simp; omega
theorem sgs_snoc (l : List (Int × Bool)) (x : Int × Bool) : sgsOf (l ++ [x]) = sgsOf l ++ sgCells x := by simp [sgsOf]
theorem sgs_at (l : List (Int × Bool)) (i : Nat) (x : Int × Bool) (h : l[i]? = some x) (k : Nat) (hk : k < 2) : (sgsOf l)[i * 2 + k]? = (sgCells x)[k]? := by
  induction l generalizing i with
  | nil => simp at h
  | cons a r ih =>
    cases i with
    | zero =>
      simp at h; subst h
      show (sgCells a ++ sgsOf r)[0 * 2 + k]? = _
      rw [List.getElem?_append_left (by simp [sgCells]; omega)]; congr 1; omega
    | succ i =>
      simp at h
      show (sgCells a ++ sgsOf r)[(i + 1) * 2 + k]? = _
      rw [List.getElem?_append_right (by simp [sgCells]; omega), ← ih i h]
      congr 1; simp [sgCells]; omega
theorem own_type {w : World} {b n T s : Nat} {v : Value} {xs : List Value} (h : w.ownsRow b T s v n xs) : ∀ k, v.ownBlock = some k → ∃ cs f, w.heap[k]? = some (Obj.cells cs T f) := by
  intro k hk
  obtain ⟨_, h0 | ⟨g, cap, cur, rfl, hb, hh, _⟩⟩ := h
  · rw [h0.1] at hk; cases hk
  · simp only [Value.ownBlock, Option.some.injEq] at hk
    subst hk; exact ⟨_, _, hh⟩
theorem own_ne_type {w : World} {b n T T2 s B : Nat} {v : Value} {xs : List Value} {cs : Array Value} {f : Nat × Nat} (h : w.ownsRow b T s v n xs) (hB : w.heap[B]? = some (.cells cs T2 f)) (hT : T ≠ T2) : v.ownBlock ≠ some B := fun e => by
  obtain ⟨cs', f', hc⟩ := own_type h B e
  rw [hc] at hB
  simp only [Option.some.injEq, Obj.cells.injEq] at hB
  exact hT hB.2.1
theorem PtW.rowed {w w' : World} {x : Value × Pt} {row : Option Nat} {T : Nat} (h : PtW w x) (hg : w.grownBy w' row) (ht : ∀ k, row = some k → ∃ cs f, w.heap[k]? = some (Obj.cells cs T f)) (hT : T ≠ 36) : PtW w' x :=
  h.keep hg.size (fun g ⟨cs, f, hc⟩ => hg.block g (lt_of_block hc) (fun e => by
    obtain ⟨cs', f', hc'⟩ := ht g e.symm
    rw [hc] at hc'
    simp only [Option.some.injEq, Obj.cells.injEq] at hc'
    exact hT hc'.2.1.symm))
theorem RdTo.rowed {w wr w' : World} {b : Nat} {mv : Nat → Value} {r : Rd} {row : Option Nat} (h : RdTo w wr b mv r) (hg : wr.grownBy w' row) (hrow : ∀ k, row = some k → w.heap.size ≤ k) (hlt : b < w.heap.size) : RdTo w w' b mv r := by
  have ho : ∀ g, g < w.heap.size → w'.heap[g]? = wr.heap[g]? := fun g hgl => hg.block g (Nat.lt_of_lt_of_le hgl h.grown.size) (fun e => by have := hrow g e.symm; omega)
  exact ⟨h.rd.keep hg.size (fun g h1 _ => ho g (by omega)) (ho b hlt), ⟨hg.os.trans h.grown.os, hg.tape.trans h.grown.tape, hg.output.trans h.grown.output, Nat.le_trans h.grown.size hg.size, fun i hi hne => (ho i hi).trans (h.grown.block i hi hne)⟩⟩
theorem foldR_next {ps : List Pt} {ops : List (Int × Bool)} {k : Nat} {p : Pt} {s : Int × Bool} (hp : ps[k]? = some p) (hs : ops[k]? = some s) : foldR (ps.drop k) (ops.drop k) = sjoin s p (foldR (ps.drop (k + 1)) (ops.drop (k + 1))) := by
  have h1 := (List.getElem?_eq_some_iff.1 hp).1
  have h2 := (List.getElem?_eq_some_iff.1 hs).1
  rw [List.drop_eq_getElem_cons h1, List.drop_eq_getElem_cons h2]
  have e1 : ps[k] = p := by rw [List.getElem?_eq_getElem h1] at hp; exact Option.some.inj hp
  have e2 : ops[k] = s := by rw [List.getElem?_eq_getElem h2] at hs; exact Option.some.inj hs
  rw [e1, e2]; rfl
theorem foldR_last {ps : List Pt} {ops : List (Int × Bool)} (h : ps.length = ops.length + 1) {p : Pt} (hp : ps[ops.length]? = some p) : foldR (ps.drop ops.length) (ops.drop ops.length) = p := by
  have h1 := (List.getElem?_eq_some_iff.1 hp).1
  have e1 : ps[ops.length] = p := by rw [List.getElem?_eq_getElem h1] at hp; exact Option.some.inj hp
  rw [List.drop_eq_getElem_cons h1, List.drop_length, e1]
  rw [List.drop_eq_nil_of_le (by omega)]; rfl
theorem foldR_bound {ps : List Pt} {ops : List (Int × Bool)} (hs : ∀ s ∈ ops, s.1 ≤ 25) (k : Nat) : (foldR (ps.drop k) (ops.drop k)).nodes ≤ (ps.map Pt.nodes).sum + ops.length := by
  have h := foldR_nodes (ps.drop k) (ops.drop k) (fun s h => hs s (List.mem_of_mem_drop h))
  have h1 : ((ps.drop k).map Pt.nodes).sum ≤ (ps.map Pt.nodes).sum := by
    conv => rhs; rw [← List.take_append_drop k ps]
    rw [List.map_append, List.sum_append]; omega
  have h2 : (ops.drop k).length ≤ ops.length := by rw [List.length_drop]; omega
  omega

/-- What fromRight has read: the lists, as they lie in memory. -/
structure RBase (w : World) (b : Nat) (mv : Nat → Value) (wr : World) (lv bv : Value) (L : List (Value × Pt)) (ops : List (Int × Bool)) (rd : Rd) : Prop where
  own : wr.ownsRow (w.heap.size + 1) 64 3 lv L.length (ptsOf L)
  sgn : wr.ownsRow (w.heap.size + 1) 84 2 bv ops.length (sgsOf ops)
  pts : ∀ x ∈ L, PtW wr x
  oks : ∀ x ∈ L, x.2.ok
  ops_ : ∀ s ∈ ops, s.1 ≤ 25
  len : L.length = ops.length + 1
  h4 : wr.heap[w.heap.size]? = some (.cells #[.slice none 0 0, .int .i64 0, .int .i64 0] 64 (0, 0))
  rd_ : RdTo w wr b mv rd
  nd : ((L.map Prod.snd).map Pt.nodes).sum + ops.length ≤ 100001
theorem RBase.keep {w wr w' : World} {b : Nat} {mv : Nat → Value} {lv bv : Value} {L : List (Value × Pt)} {ops : List (Int × Bool)} {rd rd' : Rd} (h : RBase w b mv wr lv bv L ops rd) (hs : wr.heap.size ≤ w'.heap.size) (hk : ∀ g, g < wr.heap.size → w.heap.size ≤ g → w'.heap[g]? = wr.heap[g]?) (hr : RdTo w w' b mv rd') (hpt : ∀ x ∈ L, PtW w' x) : RBase w b mv w' lv bv L ops rd' :=
  ⟨own_block h.own (fun g hg => by have := h.own.lt g hg; exact hk g this.2 (by omega)), own_block h.sgn (fun g hg => by have := h.sgn.lt g hg; exact hk g this.2 (by omega)), hpt, h.oks, h.ops_, h.len, (hk _ (lt_of_block h.h4) (Nat.le_refl _)).trans h.h4, hr, h.nd⟩
/-- The head of the second loop. -/
structure FAt (w : World) (b : Nat) (mv : Nat → Value) (B9 : Nat) (lv bv : Value) (L : List (Value × Pt)) (ops : List (Int × Bool)) (rd : Rd) (k : Nat) (ev : Value) (wr : World) : Prop where
  base : RBase w b mv wr lv bv L ops rd
  le : k ≤ ops.length
  b9 : w.heap.size < B9
  n9 : lv.ownBlock ≠ some B9
  h9 : wr.heap[B9]? = some (.cells #[ev, .int .i64 ((foldR ((L.map Prod.snd).drop k) (ops.drop k)).nodes : Int), .int .i64 ((foldR ((L.map Prod.snd).drop k) (ops.drop k)).deep : Int)] 64 (0, 0))
  pt : PtW wr (ev, foldR ((L.map Prod.snd).drop k) (ops.drop k))
theorem fold_ok {L : List (Value × Pt)} {ops : List (Int × Bool)} (h : ∀ x ∈ L, x.2.ok) (k : Nat) : (foldR ((L.map Prod.snd).drop k) (ops.drop k)).ok :=
  foldR_ok _ _ (fun p hp => by
    have := List.mem_of_mem_drop hp
    obtain ⟨x, hx, rfl⟩ := List.mem_map.1 this
    exact h x hx)
/-- Behind the joining of a round of the second loop. -/
theorem FAt.next {w wr w4 : World} {b : Nat} {mv : Nat → Value} {B9 : Nat} {lv bv : Value} {L : List (Value × Pt)} {ops : List (Int × Bool)} {rd : Rd} {k : Nat} {ev gv : Value} {x : Value × Pt} {s : Int × Bool} (h : FAt w b mv B9 lv bv L ops rd (k + 1) ev wr) (hlt : b < w.heap.size)
    (hx : L[k]? = some x) (hs : ops[k]? = some s) (hb : Below wr.heap.size wr w4) (hpt : PtW w4 (gv, sjoin s x.2 (foldR ((L.map Prod.snd).drop (k + 1)) (ops.drop (k + 1))))) :
    FAt w b mv B9 lv bv L ops rd k gv (((w4.setCell ⟨B9, 0, none⟩ gv).setCell ⟨B9, 1, none⟩ (.int .i64 ((sjoin s x.2 (foldR ((L.map Prod.snd).drop (k + 1)) (ops.drop (k + 1)))).nodes : Int))).setCell ⟨B9, 2, none⟩ (.int .i64 ((sjoin s x.2 (foldR ((L.map Prod.snd).drop (k + 1)) (ops.drop (k + 1)))).deep : Int))) := by
  have hx' : (L.map Prod.snd)[k]? = some x.2 := by rw [List.getElem?_map, hx]; rfl
  rw [← foldR_next hx' hs] at hpt ⊢
  have z9 := lt_of_block h.h9
  have y9 := (hb.block B9 z9).trans h.h9
  have k1 := setObj_heap (v := gv) y9 (k := 0) (by simp)
  have k2 := setObj_heap (v := .int .i64 ((foldR ((L.map Prod.snd).drop k) (ops.drop k)).nodes : Int)) k1 (k := 1) (by simp)
  have k3 := setObj_heap (v := .int .i64 ((foldR ((L.map Prod.snd).drop k) (ops.drop k)).deep : Int)) k2 (k := 2) (by simp)
  have ho : ∀ g, g ≠ B9 → g < wr.heap.size → (((w4.setCell ⟨B9, 0, none⟩ gv).setCell ⟨B9, 1, none⟩ (.int .i64 ((foldR ((L.map Prod.snd).drop k) (ops.drop k)).nodes : Int))).setCell ⟨B9, 2, none⟩ (.int .i64 ((foldR ((L.map Prod.snd).drop k) (ops.drop k)).deep : Int))).heap[g]? = wr.heap[g]? := fun g hg hgl => by
    rw [Below.heap_setCell _ _ _ _ (by simpa using hg), Below.heap_setCell _ _ _ _ (by simpa using hg), Below.heap_setCell _ _ _ _ (by simpa using hg), hb.block g hgl]
  have set3 : ∀ y : Value × Pt, PtW w4 y → PtW (((w4.setCell ⟨B9, 0, none⟩ gv).setCell ⟨B9, 1, none⟩ (.int .i64 ((foldR ((L.map Prod.snd).drop k) (ops.drop k)).nodes : Int))).setCell ⟨B9, 2, none⟩ (.int .i64 ((foldR ((L.map Prod.snd).drop k) (ops.drop k)).deep : Int))) y := fun y hy =>
    ((hy.set y9 (by decide) _).set k1 (by decide) _).set k2 (by decide) _
  have hb9 := h.b9
  have hbs := hb.size
  have ho9 : bv.ownBlock ≠ some B9 := own_ne_type h.base.sgn h.h9 (by decide)
  exact ⟨⟨own_block h.base.own (fun g hg => ho g (fun e => h.n9 (by rw [← e]; exact hg)) (h.base.own.lt g hg).2), own_block h.base.sgn (fun g hg => ho g (fun e => ho9 (by rw [← e]; exact hg)) (h.base.sgn.lt g hg).2),
    fun y hy => set3 y ((h.base.pts y hy).below hb), h.base.oks, h.base.ops_, h.base.len, (ho w.heap.size (by omega) (lt_of_block h.base.h4)).trans h.base.h4, (((h.base.rd_.then_below hb).setLocal (by omega) hlt _).setLocal (by omega) hlt _).setLocal (by omega) hlt _, h.base.nd⟩,
    by have := h.le; omega, hb9, h.n9, by rw [k3]; simp, set3 _ hpt⟩

theorem PtW.drew {w : World} {x : Value × Pt} (h : PtW w x) : PtW w.drew x := h.keep (Nat.le_refl _) (fun _ _ => rfl)
theorem below_undrew {w w' : World} (h : Below w.drew.heap.size w.drew w') : Below w.heap.size w w' := ⟨h.os, h.tape, h.output, h.size, h.block⟩
theorem own_slice {w : World} {b n T s : Nat} {v : Value} {xs : List Value} (h : w.ownsRow b T s v n xs) : ∃ A c, v = .slice A n c ∧ n ≤ c ∧ c ≤ 9223372036854775807 ∧ (0 < n → ∃ g, A = some ⟨g, 0, none⟩ ∧ g < w.heap.size) := by
  obtain ⟨_, h0 | ⟨g, cap, cur, rfl, hb, hh, hnc, hcm, _⟩⟩ := h
  · obtain ⟨rfl, rfl⟩ := h0
    exact ⟨none, 0, rfl, Nat.le_refl _, by omega, fun h => by omega⟩
  · exact ⟨_, cap, rfl, hnc, by unfold maxLen at hcm; omega, fun _ => ⟨g, rfl, lt_of_block hh⟩⟩
theorem RBase.part {w wr : World} {b : Nat} {mv : Nat → Value} {lv bv : Value} {L : List (Value × Pt)} {ops : List (Int × Bool)} {rd : Rd} (h : RBase w b mv wr lv bv L ops rd) {g c : Nat} (hv : lv = .slice (some ⟨g, 0, none⟩) L.length c) {i : Nat} {x : Value × Pt} (hx : L[i]? = some x) :
    wr.cell? ⟨g, i * 3, none⟩ = some x.1 ∧ wr.cell? ⟨g, i * 3 + 1, none⟩ = some (.int .i64 (x.2.nodes : Int)) ∧ wr.cell? ⟨g, i * 3 + 2, none⟩ = some (.int .i64 (x.2.deep : Int)) := by
  have ho := h.own
  rw [hv] at ho
  have hil := (List.getElem?_eq_some_iff.1 hx).1
  have q : ∀ k, k < 3 → wr.cell? ⟨g, i * 3 + k, none⟩ = (ptCells x)[k]? := fun k hk => by rw [ho.cellAt _ (by omega), pts_at L i x hx k hk]
  exact ⟨q 0 (by omega), q 1 (by omega), q 2 (by omega)⟩
theorem RBase.sign_ {w wr : World} {b : Nat} {mv : Nat → Value} {lv bv : Value} {L : List (Value × Pt)} {ops : List (Int × Bool)} {rd : Rd} (h : RBase w b mv wr lv bv L ops rd) {g c : Nat} (hv : bv = .slice (some ⟨g, 0, none⟩) ops.length c) {i : Nat} {x : Int × Bool} (hx : ops[i]? = some x) :
    wr.cell? ⟨g, i * 2, none⟩ = some (.int .i64 x.1) ∧ wr.cell? ⟨g, i * 2 + 1, none⟩ = some (.bool x.2) := by
  have ho := h.sgn
  rw [hv] at ho
  have hil := (List.getElem?_eq_some_iff.1 hx).1
  have q : ∀ k, k < 2 → wr.cell? ⟨g, i * 2 + k, none⟩ = (sgCells x)[k]? := fun k hk => by rw [ho.cellAt _ (by omega), sgs_at ops i x hx k hk]
  exact ⟨q 0 (by omega), q 1 (by omega)⟩
theorem part_bound {L : List (Value × Pt)} {x : Value × Pt} (h : x ∈ L) : x.2.nodes ≤ ((L.map Prod.snd).map Pt.nodes).sum := by
  induction L with
  | nil => simp at h
  | cons a r ih =>
    simp only [List.map_cons, List.sum_cons]
    rcases List.mem_cons.1 h with rfl | h
    · omega
    · have := ih h; omega
theorem news_new (W : World) (cs : Array Value) (T : TypeId) (xs : List Value) (h : cs.toList = xs) {G : Nat} (hG : W.heap.size = G) : ∀ j u, xs[j]? = some u → (W.alloc (.cells cs T)).cell? ((⟨G, 0, none⟩ : Addr).add j) = some u := by
  subst h; subst hG
  exact World.news_of_block (t := T) (fr := (0, 0)) (heap_alloc_new _ _)
/-- A round of the first loop has laid a sign and a part. -/
theorem RBase.step {w wr w3 w4 w5 : World} {b : Nat} {mv : Nat → Value} {lv bv lv2 bv2 fv : Value} {L : List (Value × Pt)} {ops : List (Int × Bool)} {rd r3 : Rd} {q3 : Pt} {s : Int × Bool} {o3 o5 : Obj} (h : RBase w b mv wr lv bv L ops rd)
    (hg3 : (wr.alloc o3).grownBy w3 bv.ownBlock) (hown3 : w3.ownsRow (w.heap.size + 1) 84 2 bv2 (ops.length + 1) (sgsOf ops ++ sgCells s)) (hr4 : RdTo w3 w4 b mv r3) (hpt : PtW w4 (fv, q3))
    (hg5 : (w4.alloc o5).grownBy w5 lv.ownBlock) (hown5 : w5.ownsRow (w.heap.size + 1) 64 3 lv2 (L.length + 1) (ptsOf L ++ ptCells (fv, q3))) (hlt : b < w.heap.size) (hok : q3.ok) (hs : s.1 ≤ 25)
    (hn : (((L ++ [(fv, q3)]).map Prod.snd).map Pt.nodes).sum + (ops ++ [s]).length ≤ 100001) :
    RBase w b mv w5 lv2 bv2 (L ++ [(fv, q3)]) (ops ++ [s]) r3 := by
  have s3 := hg3.size
  have s4 := hr4.grown.size
  have s5 := hg5.size
  simp at s3 s5
  have z4 := lt_of_block h.h4
  have ob : ∀ g, bv.ownBlock = some g → w.heap.size + 1 ≤ g ∧ g < wr.heap.size := fun g hg => h.sgn.lt g hg
  have ol : ∀ g, lv.ownBlock = some g → w.heap.size + 1 ≤ g ∧ g < wr.heap.size := fun g hg => h.own.lt g hg
  have k3 : ∀ g, g < wr.heap.size → bv.ownBlock ≠ some g → w3.heap[g]? = wr.heap[g]? := fun g h1 h2 => (hg3.block g (by simp; omega) (fun e => h2 e.symm)).trans (Below.heap_alloc _ _ _ h1)
  have k4 : ∀ g, g < w3.heap.size → g ≠ b → w4.heap[g]? = w3.heap[g]? := fun g h1 h2 => hr4.grown.block g h1 (fun e => h2 (by injection e))
  have k5 : ∀ g, g < w4.heap.size → lv.ownBlock ≠ some g → w5.heap[g]? = w4.heap[g]? := fun g h1 h2 => (hg5.block g (by simp; omega) (fun e => h2 e.symm)).trans (Below.heap_alloc _ _ _ h1)
  have tb : ∀ k, bv.ownBlock = some k → ∃ cs f, (wr.alloc o3).heap[k]? = some (Obj.cells cs 84 f) := fun k hk => by
    obtain ⟨cs, f, hc⟩ := own_type h.sgn k hk
    exact ⟨cs, f, (Below.heap_alloc _ _ _ (ob k hk).2).trans hc⟩
  have hne : ∀ g, lv.ownBlock = some g → bv.ownBlock ≠ some g := fun g hg e => by
    obtain ⟨cs, f, hc⟩ := own_type h.own g hg
    exact own_ne_type h.sgn hc (by decide) e
  have l3 : w3.ownsRow (w.heap.size + 1) 64 3 lv L.length (ptsOf L) := own_block h.own (fun g hg => k3 g (ol g hg).2 (hne g hg))
  have l4 : w4.ownsRow (w.heap.size + 1) 64 3 lv L.length (ptsOf L) := own_block l3 (fun g hg => k4 g (l3.lt g hg).2 (by have := (ol g hg).1; omega))
  have tl : ∀ k, lv.ownBlock = some k → ∃ cs f, (w4.alloc o5).heap[k]? = some (Obj.cells cs 64 f) := fun k hk => by
    obtain ⟨cs, f, hc⟩ := own_type l4 k hk
    exact ⟨cs, f, (Below.heap_alloc _ _ _ (l4.lt k hk).2).trans hc⟩
  have b4 : w4.ownsRow (w.heap.size + 1) 84 2 bv2 (ops.length + 1) (sgsOf ops ++ sgCells s) := own_block hown3 (fun g hg => k4 g (hown3.lt g hg).2 (by have := (hown3.lt g hg).1; omega))
  have b5 : w5.ownsRow (w.heap.size + 1) 84 2 bv2 (ops.length + 1) (sgsOf ops ++ sgCells s) := own_block b4 (fun g hg => k5 g (b4.lt g hg).2 (fun e => by
    obtain ⟨cs, f, hc⟩ := own_type l4 g e
    exact own_ne_type b4 hc (by decide) hg))
  have r3' := (h.rd_.then_below (below_new wr o3)).rowed hg3 (fun k hk => by have := (ob k hk).1; omega) hlt
  have r5 := ((r3'.trans hr4).then_below (below_new w4 o5)).rowed hg5 (fun k hk => by have := (ol k hk).1; omega) hlt
  refine ⟨by rw [List.length_append, pts_snoc]; exact hown5, by rw [List.length_append, sgs_snoc]; exact b5, ?_, ?_, ?_, by simp [h.len], ?_, r5, hn⟩
  · intro x hx
    simp only [List.mem_append, List.mem_singleton] at hx
    rcases hx with hx | rfl
    · exact ((((h.pts x hx).below (below_new wr o3)).rowed hg3 tb (by decide)).grown r3'.rd hr4.grown |>.below (below_new w4 o5)).rowed hg5 tl (by decide)
    · exact (hpt.below (below_new w4 o5)).rowed hg5 tl (by decide)
  · intro x hx
    simp only [List.mem_append, List.mem_singleton] at hx
    rcases hx with hx | rfl
    · exact h.oks x hx
    · exact hok
  · intro x hx
    simp only [List.mem_append, List.mem_singleton] at hx
    rcases hx with hx | rfl
    · exact h.ops_ x hx
    · exact hs
  · rw [k5 _ (by omega) (fun e => by have := (ol _ e).1; omega), k4 _ (by omega) (by omega), k3 _ z4 (fun e => by have := (ob _ e).1; omega)]; exact h.h4
end Go.Proofs.YtgohhnbdicdenaaDoor.Ex

