/- Arguments that are programs: what they read as. Conditions: none. -/
import Derived.Test.YtobkcdkffcenbaaGreatDoorSa01
import Derived.Test.YtobkcdkffcenbaaGreatDoorCb16
import Derived.Deep.Slices
import Derived.Maps.OwnSet
set_option linter.unusedVariables false
set_option linter.unusedSimpArgs false
namespace Go.Proofs.YtobkcdkffcenbaaGreatDoor.Op
open Go.ChangeShapes Go.WideShapes Go.ChangeAt Go.RowKit Go.Deep
open Go.Proofs.YtobkcdkffcenbaaGreatDoor.Tr Go.Proofs.YtobkcdkffcenbaaGreatDoor.Pg
set_option maxRecDepth 100000
instance : Inhabited Prm := ⟨⟨[], 0⟩⟩
instance : Inhabited Eqn := ⟨⟨[], []⟩⟩
instance : Inhabited Itm := ⟨⟨0, [], 0, [], [], []⟩⟩
instance : Inhabited Unt := ⟨⟨false, [], [], ⟨[], 0⟩, [], [], []⟩⟩
def RowN {α : Type} (K : Nat) (R : World → α → List Value → Prop) (w : World) (l : List α) (v : Value) : Prop :=
  ∃ A c, v = .slice A l.length c ∧ l.length ≤ c ∧ c ≤ maxLen ∧ (A = none → c = 0) ∧ ∀ (i : Nat) (a : α), l[i]? = some a → ∃ (g o : Nat) (x : List Value), A = some ⟨g, o, none⟩ ∧ g < w.heap.size ∧ R w a x ∧ x.length = K ∧ ∀ k, k < K → w.cell? ⟨g, o + i * K + k, none⟩ = x[k]?
def NodesZ (w : World) (v : Value) (e : List Nd) : Prop := Nodes w v e ∧ ∀ c, v = .slice none 0 c → c = 0
def PrmN (w : World) (p : Prm) (x : List Value) : Prop := x = [.string (str p.name), .int .i64 p.ty] ∧ p.name.length ≤ maxLen
def EqnN (w : World) (q : Eqn) (x : List Value) : Prop := ∃ ev, x = [.string (str q.name), ev] ∧ NodesZ w ev q.e ∧ q.name.length ≤ maxLen ∧ Short q.e
def ExpN (w : World) (e : List Nd) (x : List Value) : Prop := ∃ ev, x = [ev] ∧ NodesZ w ev e ∧ Short e
def ItmN (w : World) (i : Itm) (x : List Value) : Prop := ∃ ev fv av, x = [.int .i64 i.kind, .string (str i.name), .int .i64 i.ty, ev, fv, av] ∧ NodesZ w ev i.e ∧ NodesZ w fv i.f ∧ RowN 1 ExpN w i.args av ∧ i.name.length ≤ maxLen ∧ Short i.e ∧ Short i.f
def UntN (w : World) (u : Unt) (x : List Value) : Prop := ∃ iv vv qv lv, x = [.bool u.contract, .string (str u.name), iv, .string (str u.out.name), .int .i64 u.out.ty, vv, qv, lv] ∧ RowN 2 PrmN w u.ins iv ∧ RowN 2 PrmN w u.vars vv ∧ RowN 2 EqnN w u.eqs qv ∧ RowN 6 ItmN w u.items lv ∧ u.name.length ≤ maxLen ∧ u.out.name.length ≤ maxLen
theorem NodesZ.below {w w' : World} {v : Value} {e : List Nd} (h : NodesZ w v e) (hb : Below w.heap.size w w') : NodesZ w' v e := by
  obtain ⟨⟨A, c, e1, h1, h2, h3⟩, h4⟩ := h
  refine ⟨⟨A, c, e1, h1, h2, fun i t hi => ?_⟩, h4⟩
  obtain ⟨g, o, rfl, hlt, c0, c1, c2, c3, c4, c5⟩ := h3 i t hi
  have q : ∀ k, w'.cell? ⟨g, k, none⟩ = w.cell? ⟨g, k, none⟩ := fun k => hb.cell (p := ⟨g, k, none⟩) hlt
  exact ⟨g, o, rfl, by have := hb.size; omega, (q _).trans c0, (q _).trans c1, (q _).trans c2, (q _).trans c3, (q _).trans c4, (q _).trans c5⟩
theorem RowN.below {α : Type} {K : Nat} {R : World → α → List Value → Prop} {w w' : World} {l : List α} {v : Value} (h : RowN K R w l v) (hb : Below w.heap.size w w') (hR : ∀ a x, R w a x → R w' a x) : RowN K R w' l v := by
  obtain ⟨A, c, rfl, h1, h2, h0, h3⟩ := h
  refine ⟨A, c, rfl, h1, h2, h0, fun i a hi => ?_⟩
  obtain ⟨g, o, x, e1, e2, e3, e4, e5⟩ := h3 i a hi
  exact ⟨g, o, x, e1, by have := hb.size; omega, hR a x e3, e4, fun k hk => (hb.cell (p := ⟨g, o + i * K + k, none⟩) e2).trans (e5 k hk)⟩
theorem PrmN.below {w w' : World} (hb : Below w.heap.size w w') (p : Prm) (x : List Value) (h : PrmN w p x) : PrmN w' p x := h
theorem EqnN.below {w w' : World} (hb : Below w.heap.size w w') (p : Eqn) (x : List Value) (h : EqnN w p x) : EqnN w' p x := by
  obtain ⟨ev, h1, h2, h3⟩ := h; exact ⟨ev, h1, h2.below hb, h3⟩
theorem ExpN.below {w w' : World} (hb : Below w.heap.size w w') (p : List Nd) (x : List Value) (h : ExpN w p x) : ExpN w' p x := by
  obtain ⟨ev, h1, h2, h3⟩ := h; exact ⟨ev, h1, h2.below hb, h3⟩
theorem ItmN.below {w w' : World} (hb : Below w.heap.size w w') (p : Itm) (x : List Value) (h : ItmN w p x) : ItmN w' p x := by
  obtain ⟨ev, fv, av, h1, h2, h3, h4, h5⟩ := h; exact ⟨ev, fv, av, h1, h2.below hb, h3.below hb, h4.below hb (ExpN.below hb), h5⟩
theorem UntN.below {w w' : World} (hb : Below w.heap.size w w') (p : Unt) (x : List Value) (h : UntN w p x) : UntN w' p x := by
  obtain ⟨iv, vv, qv, lv, h1, h2, h3, h4, h5, h6⟩ := h
  exact ⟨iv, vv, qv, lv, h1, h2.below hb (PrmN.below hb), h3.below hb (PrmN.below hb), h4.below hb (EqnN.below hb), h5.below hb (ItmN.below hb), h6⟩
theorem rown_at {α : Type} {K : Nat} {R : World → α → List Value → Prop} {w : World} {l : List α} {v : Value} {i : Nat} {a : α} (h : RowN K R w l v) (hi : l[i]? = some a) :
    ∃ g o c x, v = .slice (some ⟨g, o, none⟩) l.length c ∧ g < w.heap.size ∧ R w a x ∧ x.length = K ∧ ∀ k, k < K → w.cell? ⟨g, o + i * K + k, none⟩ = x[k]? := by
  obtain ⟨A, c, rfl, h1, h2, h0, h3⟩ := h
  obtain ⟨g, o, x, rfl, e2, e3, e4, e5⟩ := h3 i a hi
  exact ⟨g, o, c, x, rfl, e2, e3, e4, e5⟩
theorem rown_form {α : Type} {K : Nat} {R : World → α → List Value → Prop} {w : World} {l : List α} {v : Value} (h : RowN K R w l v) : ∃ A c, v = .slice A l.length c ∧ l.length ≤ c ∧ c ≤ maxLen ∧ (A = none → c = 0) := by
  obtain ⟨A, c, rfl, h1, h2, h0, -⟩ := h
  exact ⟨A, c, rfl, h1, h2, h0⟩
theorem nodesz_form {w : World} {v : Value} {e : List Nd} (h : NodesZ w v e) : ∃ A c, v = .slice A e.length c ∧ e.length ≤ c ∧ c ≤ maxLen := by
  obtain ⟨⟨A, c, e1, h1, h2, h3⟩, h4⟩ := h
  exact ⟨A, c, e1, h1, h2⟩
theorem cells4 : Tryz.prog.cellsOf 4 = 1 := by kernel_rfl
theorem cells32 : Tryz.prog.cellsOf 32 = 1 := by kernel_rfl
theorem cells45 : Tryz.prog.cellsOf 45 = 2 := by kernel_rfl
theorem cells51 : Tryz.prog.cellsOf 51 = 2 := by kernel_rfl
theorem cells53 : Tryz.prog.cellsOf 53 = 6 := by kernel_rfl
theorem cells49 : Tryz.prog.cellsOf 49 = 8 := by kernel_rfl
theorem cells24 : Tryz.prog.cellsOf 24 = 3 := by kernel_rfl
theorem cells33 : Tryz.prog.cellsOf 33 = 1 := by kernel_rfl
theorem cells46 : Tryz.prog.cellsOf 46 = 1 := by kernel_rfl
theorem cells47 : Tryz.prog.cellsOf 47 = 1 := by kernel_rfl
theorem cells22 : Tryz.prog.cellsOf 22 = 1 := by kernel_rfl
theorem cells41 : Tryz.prog.cellsOf 41 = 1 := by kernel_rfl
section
variable {H : Type} {enc : TypeId × Value → H} {w : World} {base : Nat} {spare : Nat → Bool} {held : Bool}
theorem trod_row {α : Type} [Inhabited α] {t e : TypeId} {K : Nat} {R : World → α → List Value → Prop} (ht : Tryz.prog.underlying t = some (.slice e)) (hK : Tryz.prog.cellsOf e = K) (hK0 : 0 < K)
    (one : ∀ (n : Nat) (cs : List Value) (y : DataW H × List MemPlace), DataW.trod enc Tryz.prog w base spare held n e cs = some y → ∃ a, R w a cs)
    {n : Nat} {cs : List Value} {y : DataW H × List MemPlace} (h : DataW.trod enc Tryz.prog w base spare held n t cs = some y) : ∃ v l, cs = [v] ∧ RowN K R w l v := by
  rcases open_slice ht h with ⟨rfl, _⟩ | ⟨a, len, cap, m, n', D, Pl, rfl, hb, hl, hm, hmm, _, hi⟩
  · exact ⟨_, [], rfl, none, 0, rfl, by simp, by unfold maxLen; omega, fun _ => rfl, fun i t h => by simp at h⟩
  · have hml : len ≤ m := by rw [hmm]; split <;> omega
    have each : ∀ i, i < len → ∃ x : α × List Value, R w x.1 x.2 ∧ x.2.length = K ∧ ∀ k, k < K → w.cell? (a.add (i * K + k)) = x.2[k]? := fun i hil => by
      obtain ⟨cs', hc, ht'⟩ := hi i (by omega)
      obtain ⟨x, hx⟩ := one _ _ _ ht'
      obtain ⟨_, hcl, hat⟩ := World.cells?_some hc
      rw [hK] at hat hcl
      exact ⟨(x, cs'), hx, hcl, fun k hk => by rw [← Go.Deep.add_add]; exact hat k hk⟩
    obtain ⟨X, hX⟩ := Go.Deep.choose_lt each
    refine ⟨_, (List.range len).map fun i => (X i).1, rfl, some a, cap, by simp, by simpa using hl, hm, (fun h => by cases h), fun i x hx => ?_⟩
    have hil : i < len := by have := (List.getElem?_eq_some_iff.1 hx).1; simpa using this
    rw [List.getElem?_map, List.getElem?_range hil] at hx
    simp only [Option.map_some, Option.some.injEq] at hx
    subst hx
    obtain ⟨_, l0, h0⟩ := hX 0 (by omega)
    have h0 := h0 0 hK0
    rw [List.getElem?_eq_getElem (by omega), Nat.zero_mul] at h0
    obtain ⟨g, o, rfl, hg⟩ := spot_none h0
    obtain ⟨q1, q2, q3⟩ := hX i hil
    refine ⟨g, o, (X i).2, rfl, hg, q1, q2, fun k hk => ?_⟩
    have := q3 k hk
    rw [add_none] at this
    rw [Nat.add_assoc]; exact this
theorem prm_cells (n : Nat) (cs : List Value) (y : DataW H × List MemPlace) (h : DataW.trod enc Tryz.prog w base spare held n 45 cs = some y) : ∃ a, PrmN w a cs := by
  obtain ⟨xs, m, _, _, hlen, hxl, hf⟩ := DataW.trod_struct Tryz.underlying45 h
  rw [cells45] at hlen
  have hx6 : xs.length = 2 := hxl
  match cs, hlen, xs, hx6 with
  | [c0, c1], _, [y0, y1], _ =>
    have f0 : DataW.trod enc Tryz.prog w base spare held m 9 [c0] = some y0 := by have := hf 0 _ rfl; simpa [cells3, cells9] using this
    have f1 : DataW.trod enc Tryz.prog w base spare held m 3 [c1] = some y1 := by have := hf 1 _ rfl; simpa [cells3, cells9] using this
    obtain ⟨s, e0, -, hs⟩ := DataW.trod_string Tryz.underlying9 f0
    obtain ⟨n1, e1, -, -⟩ := DataW.trod_int Tryz.underlying3 f1
    simp only [List.cons.injEq, and_true] at e0 e1
    subst e0 e1
    refine ⟨⟨s.toList, n1⟩, by rw [str_of], ?_⟩
    rw [ByteArray.toList_eq]; simpa using hs
theorem nodes_cells {n : Nat} {c : Value} {y : DataW H × List MemPlace} (h : DataW.trod enc Tryz.prog w base spare held n 32 [c] = some y) : ∃ l, NodesZ w c l ∧ Short l := by
  obtain ⟨u, l, hcs, h1, h2, h3⟩ := trod_nodes Tryz.underlying32 h
  simp only [List.cons.injEq, and_true] at hcs
  subst hcs
  exact ⟨l, ⟨h1, h3⟩, h2⟩
theorem exp_cells (n : Nat) (cs : List Value) (y : DataW H × List MemPlace) (h : DataW.trod enc Tryz.prog w base spare held n 32 cs = some y) : ∃ a, ExpN w a cs := by
  obtain ⟨u, l, hcs, h1, h2, h3⟩ := trod_nodes Tryz.underlying32 h
  exact ⟨l, u, hcs, ⟨h1, h3⟩, h2⟩
theorem eqn_cells (n : Nat) (cs : List Value) (y : DataW H × List MemPlace) (h : DataW.trod enc Tryz.prog w base spare held n 51 cs = some y) : ∃ a, EqnN w a cs := by
  obtain ⟨xs, m, _, _, hlen, hxl, hf⟩ := DataW.trod_struct Tryz.underlying51 h
  rw [cells51] at hlen
  have hx6 : xs.length = 2 := hxl
  match cs, hlen, xs, hx6 with
  | [c0, c1], _, [y0, y1], _ =>
    have f0 : DataW.trod enc Tryz.prog w base spare held m 9 [c0] = some y0 := by have := hf 0 _ rfl; simpa [cells32, cells9] using this
    have f1 : DataW.trod enc Tryz.prog w base spare held m 32 [c1] = some y1 := by have := hf 1 _ rfl; simpa [cells32, cells9] using this
    obtain ⟨s, e0, -, hs⟩ := DataW.trod_string Tryz.underlying9 f0
    obtain ⟨l, h1, h2⟩ := nodes_cells f1
    simp only [List.cons.injEq, and_true] at e0
    subst e0
    refine ⟨⟨s.toList, l⟩, c1, by rw [str_of], h1, ?_, h2⟩
    rw [ByteArray.toList_eq]; simpa using hs
theorem itm_cells (n : Nat) (cs : List Value) (y : DataW H × List MemPlace) (h : DataW.trod enc Tryz.prog w base spare held n 53 cs = some y) : ∃ a, ItmN w a cs := by
  obtain ⟨xs, m, _, _, hlen, hxl, hf⟩ := DataW.trod_struct Tryz.underlying53 h
  rw [cells53] at hlen
  have hx6 : xs.length = 6 := hxl
  match cs, hlen, xs, hx6 with
  | [c0, c1, c2, c3, c4, c5], _, [y0, y1, y2, y3, y4, y5], _ =>
    have f0 : DataW.trod enc Tryz.prog w base spare held m 3 [c0] = some y0 := by have := hf 0 _ rfl; simpa [cells3, cells9, cells32, cells41] using this
    have f1 : DataW.trod enc Tryz.prog w base spare held m 9 [c1] = some y1 := by have := hf 1 _ rfl; simpa [cells3, cells9, cells32, cells41] using this
    have f2 : DataW.trod enc Tryz.prog w base spare held m 3 [c2] = some y2 := by have := hf 2 _ rfl; simpa [cells3, cells9, cells32, cells41] using this
    have f3 : DataW.trod enc Tryz.prog w base spare held m 32 [c3] = some y3 := by have := hf 3 _ rfl; simpa [cells3, cells9, cells32, cells41] using this
    have f4 : DataW.trod enc Tryz.prog w base spare held m 32 [c4] = some y4 := by have := hf 4 _ rfl; simpa [cells3, cells9, cells32, cells41] using this
    have f5 : DataW.trod enc Tryz.prog w base spare held m 41 [c5] = some y5 := by have := hf 5 _ rfl; simpa [cells3, cells9, cells32, cells41] using this
    obtain ⟨n0, e0, -, -⟩ := DataW.trod_int Tryz.underlying3 f0
    obtain ⟨s, e1, -, hs⟩ := DataW.trod_string Tryz.underlying9 f1
    obtain ⟨n2, e2, -, -⟩ := DataW.trod_int Tryz.underlying3 f2
    obtain ⟨l3, h3, k3⟩ := nodes_cells f3
    obtain ⟨l4, h4, k4⟩ := nodes_cells f4
    obtain ⟨v5, l5, e5, h5⟩ := trod_row (R := ExpN) Tryz.underlying41 cells32 (by omega) exp_cells f5
    simp only [List.cons.injEq, and_true] at e0 e1 e2 e5
    subst e0 e1 e2 e5
    refine ⟨⟨n0, s.toList, n2, l3, l4, l5⟩, c3, c4, c5, by rw [str_of], h3, h4, h5, ?_, k3, k4⟩
    rw [ByteArray.toList_eq]; simpa using hs
theorem unt_cells (n : Nat) (cs : List Value) (y : DataW H × List MemPlace) (h : DataW.trod enc Tryz.prog w base spare held n 49 cs = some y) : ∃ a, UntN w a cs := by
  obtain ⟨xs, m, _, _, hlen, hxl, hf⟩ := DataW.trod_struct Tryz.underlying49 h
  rw [cells49] at hlen
  have hx6 : xs.length = 7 := hxl
  match cs, hlen, xs, hx6 with
  | [c0, c1, c2, c3, c4, c5, c6, c7], _, [y0, y1, y2, y3, y4, y5, y6], _ =>
    have f0 : DataW.trod enc Tryz.prog w base spare held m 4 [c0] = some y0 := by have := hf 0 _ rfl; simpa [cells4, cells9, cells33, cells45, cells46, cells47] using this
    have f1 : DataW.trod enc Tryz.prog w base spare held m 9 [c1] = some y1 := by have := hf 1 _ rfl; simpa [cells4, cells9, cells33, cells45, cells46, cells47] using this
    have f2 : DataW.trod enc Tryz.prog w base spare held m 33 [c2] = some y2 := by have := hf 2 _ rfl; simpa [cells4, cells9, cells33, cells45, cells46, cells47] using this
    have f3 : DataW.trod enc Tryz.prog w base spare held m 45 [c3, c4] = some y3 := by have := hf 3 _ rfl; simpa [cells4, cells9, cells33, cells45, cells46, cells47] using this
    have f4 : DataW.trod enc Tryz.prog w base spare held m 33 [c5] = some y4 := by have := hf 4 _ rfl; simpa [cells4, cells9, cells33, cells45, cells46, cells47] using this
    have f5 : DataW.trod enc Tryz.prog w base spare held m 46 [c6] = some y5 := by have := hf 5 _ rfl; simpa [cells4, cells9, cells33, cells45, cells46, cells47] using this
    have f6 : DataW.trod enc Tryz.prog w base spare held m 47 [c7] = some y6 := by have := hf 6 _ rfl; simpa [cells4, cells9, cells33, cells45, cells46, cells47] using this
    obtain ⟨b, e0, -⟩ := DataW.trod_bool Tryz.underlying4 f0
    obtain ⟨s, e1, -, hs⟩ := DataW.trod_string Tryz.underlying9 f1
    obtain ⟨v2, l2, e2, h2⟩ := trod_row (R := PrmN) Tryz.underlying33 cells45 (by omega) prm_cells f2
    obtain ⟨p, e3, hp⟩ := prm_cells _ _ _ f3
    obtain ⟨v4, l4, e4, h4⟩ := trod_row (R := PrmN) Tryz.underlying33 cells45 (by omega) prm_cells f4
    obtain ⟨v5, l5, e5, h5⟩ := trod_row (R := EqnN) Tryz.underlying46 cells51 (by omega) eqn_cells f5
    obtain ⟨v6, l6, e6, h6⟩ := trod_row (R := ItmN) Tryz.underlying47 cells53 (by omega) itm_cells f6
    simp only [List.cons.injEq, and_true] at e0 e1 e2 e3 e4 e5 e6
    obtain ⟨e3, e3'⟩ := e3
    subst e0 e1 e2 e3 e3' e4 e5 e6
    refine ⟨⟨b, s.toList, l2, p, l4, l5, l6⟩, c2, c5, c6, c7, by rw [str_of], h2, h4, h5, h6, ?_, hp⟩
    rw [ByteArray.toList_eq]; simpa using hs
theorem open_prog {r : Reach} {b0 : Nat} {v : Value} {d : DataW H} {p : List MemPlace} (hv : Value.okWide Tryz.prog w r b0 24 v) (h : DataW.Trod enc Tryz.prog w base spare held 24 v d p) :
    ∃ uv us m b, v = .agg #[uv, .string (str m), .string (str b)] ∧ RowN 8 UntN w us uv ∧ m.length ≤ maxLen ∧ b.length ≤ maxLen := by
  obtain ⟨cs, rfl, hsz⟩ := okWide_struct Tryz.underlying24 hv
  obtain ⟨fuel, hf⟩ := h
  obtain ⟨l⟩ := cs
  simp only [Value.cells] at hf
  obtain ⟨xs, m, _, _, hlen, hxl, hf⟩ := DataW.trod_struct Tryz.underlying24 hf
  rw [cells24] at hlen
  have hx6 : xs.length = 3 := hxl
  match l, hlen, xs, hx6 with
  | [c0, c1, c2], _, [y0, y1, y2], _ =>
    have f0 : DataW.trod enc Tryz.prog w base spare held m 22 [c0] = some y0 := by have := hf 0 _ rfl; simpa [cells9, cells22] using this
    have f1 : DataW.trod enc Tryz.prog w base spare held m 9 [c1] = some y1 := by have := hf 1 _ rfl; simpa [cells9, cells22] using this
    have f2 : DataW.trod enc Tryz.prog w base spare held m 9 [c2] = some y2 := by have := hf 2 _ rfl; simpa [cells9, cells22] using this
    obtain ⟨v0, us, e0, h0⟩ := trod_row (R := UntN) Tryz.underlying22 cells49 (by omega) unt_cells f0
    obtain ⟨s1, e1, -, hs1⟩ := DataW.trod_string Tryz.underlying9 f1
    obtain ⟨s2, e2, -, hs2⟩ := DataW.trod_string Tryz.underlying9 f2
    simp only [List.cons.injEq, and_true] at e0 e1 e2
    subst e0 e1 e2
    refine ⟨c0, us, s1.toList, s2.toList, by rw [str_of, str_of], h0, ?_, ?_⟩
    · rw [ByteArray.toList_eq]; simpa using hs1
    · rw [ByteArray.toList_eq]; simpa using hs2
end
end Go.Proofs.YtobkcdkffcenbaaGreatDoor.Op

/- Programs in memory, wherever their rows lie, those that came in and those that were read. Conditions: none. -/
namespace Go.Proofs.YtobkcdkffcenbaaGreatDoor.Ow
open Go.ChangeShapes Go.WideShapes Go.ChangeAt Go.RowKit
open Go.Proofs.YtobkcdkffcenbaaGreatDoor.Tr Go.Proofs.YtobkcdkffcenbaaGreatDoor.Pg
def RowN {α : Type} (K : Nat) (R : World → α → List Value → Prop) (w : World) (l : List α) (v : Value) : Prop :=
  ∃ A c, v = .slice A l.length c ∧ l.length ≤ c ∧ c ≤ maxLen ∧ ∀ (i : Nat) (a : α), l[i]? = some a → ∃ (g o : Nat) (x : List Value), A = some ⟨g, o, none⟩ ∧ g < w.heap.size ∧ R w a x ∧ x.length = K ∧ ∀ k, k < K → w.cell? ⟨g, o + i * K + k, none⟩ = x[k]?
def PrmN (w : World) (p : Prm) (x : List Value) : Prop := x = [.string (str p.name), .int .i64 p.ty] ∧ p.name.length ≤ maxLen
def EqnN (w : World) (q : Eqn) (x : List Value) : Prop := ∃ ev, x = [.string (str q.name), ev] ∧ Nodes w ev q.e ∧ q.name.length ≤ maxLen ∧ Short q.e
def ItmN (w : World) (i : Itm) (x : List Value) : Prop := ∃ ev fv A n c, x = [.int .i64 i.kind, .string (str i.name), .int .i64 i.ty, ev, fv, .slice A n c] ∧ Nodes w ev i.e ∧ Nodes w fv i.f ∧ i.name.length ≤ maxLen ∧ Short i.e ∧ Short i.f
def UntN (w : World) (u : Unt) (x : List Value) : Prop := ∃ iv vv qv lv, x = [.bool u.contract, .string (str u.name), iv, .string (str u.out.name), .int .i64 u.out.ty, vv, qv, lv] ∧ RowN 2 PrmN w u.ins iv ∧ RowN 2 PrmN w u.vars vv ∧ RowN 2 EqnN w u.eqs qv ∧ RowN 6 ItmN w u.items lv ∧ u.name.length ≤ maxLen ∧ u.out.name.length ≤ maxLen
theorem RowN.below {α : Type} {K : Nat} {R : World → α → List Value → Prop} {w w' : World} {l : List α} {v : Value} (h : RowN K R w l v) (hb : Below w.heap.size w w') (hR : ∀ a x, R w a x → R w' a x) : RowN K R w' l v := by
  obtain ⟨A, c, rfl, h1, h2, h3⟩ := h
  refine ⟨A, c, rfl, h1, h2, fun i a hi => ?_⟩
  obtain ⟨g, o, x, e1, e2, e3, e4, e5⟩ := h3 i a hi
  exact ⟨g, o, x, e1, by have := hb.size; omega, hR a x e3, e4, fun k hk => (hb.cell (p := ⟨g, o + i * K + k, none⟩) e2).trans (e5 k hk)⟩
theorem PrmN.below {w w' : World} (hb : Below w.heap.size w w') (p : Prm) (x : List Value) (h : PrmN w p x) : PrmN w' p x := h
theorem EqnN.below {w w' : World} (hb : Below w.heap.size w w') (p : Eqn) (x : List Value) (h : EqnN w p x) : EqnN w' p x := by
  obtain ⟨ev, h1, h2, h3⟩ := h; exact ⟨ev, h1, h2.below hb (Nat.le_refl _), h3⟩
theorem ItmN.below {w w' : World} (hb : Below w.heap.size w w') (p : Itm) (x : List Value) (h : ItmN w p x) : ItmN w' p x := by
  obtain ⟨ev, fv, A, n, c, h1, h2, h3, h4⟩ := h; exact ⟨ev, fv, A, n, c, h1, h2.below hb (Nat.le_refl _), h3.below hb (Nat.le_refl _), h4⟩
theorem UntN.below {w w' : World} (hb : Below w.heap.size w w') (p : Unt) (x : List Value) (h : UntN w p x) : UntN w' p x := by
  obtain ⟨iv, vv, qv, lv, h1, h2, h3, h4, h5, h6⟩ := h
  exact ⟨iv, vv, qv, lv, h1, h2.below hb (PrmN.below hb), h3.below hb (PrmN.below hb), h4.below hb (EqnN.below hb), h5.below hb (ItmN.below hb), h6⟩
theorem rown_at {α : Type} {K : Nat} {R : World → α → List Value → Prop} {w : World} {l : List α} {v : Value} {i : Nat} {a : α} (h : RowN K R w l v) (hi : l[i]? = some a) :
    ∃ g o c x, v = .slice (some ⟨g, o, none⟩) l.length c ∧ g < w.heap.size ∧ R w a x ∧ x.length = K ∧ ∀ k, k < K → w.cell? ⟨g, o + i * K + k, none⟩ = x[k]? := by
  obtain ⟨A, c, rfl, h1, h2, h3⟩ := h
  obtain ⟨g, o, x, rfl, e2, e3, e4, e5⟩ := h3 i a hi
  exact ⟨g, o, c, x, rfl, e2, e3, e4, e5⟩
theorem rown_form {α : Type} {K : Nat} {R : World → α → List Value → Prop} {w : World} {l : List α} {v : Value} (h : RowN K R w l v) : ∃ A c, v = .slice A l.length c ∧ l.length ≤ c ∧ c ≤ maxLen ∧ True := by
  obtain ⟨A, c, rfl, h1, h2, -⟩ := h
  exact ⟨A, c, rfl, h1, h2, trivial⟩
theorem row_of {α : Type} {K : Nat} {R S : World → α → List Value → Prop} {w : World} {l : List α} {v : Value} (h : Op.RowN K R w l v) (hR : ∀ a x, R w a x → S w a x) : RowN K S w l v := by
  obtain ⟨A, c, rfl, h1, h2, -, h3⟩ := h
  refine ⟨A, c, rfl, h1, h2, fun i a hi => ?_⟩
  obtain ⟨g, o, x, e1, e2, e3, e4⟩ := h3 i a hi
  exact ⟨g, o, x, e1, e2, hR a x e3, e4⟩
theorem unt_of {w : World} (u : Unt) (x : List Value) (h : Op.UntN w u x) : UntN w u x := by
  obtain ⟨iv, vv, qv, lv, h1, h2, h3, h4, h5, h6⟩ := h
  refine ⟨iv, vv, qv, lv, h1, row_of h2 (fun _ _ h => h), row_of h3 (fun _ _ h => h), row_of h4 (fun a x h => ?_), row_of h5 (fun a x h => ?_), h6⟩
  · obtain ⟨ev, k1, k2, k3⟩ := h
    exact ⟨ev, k1, k2.1, k3⟩
  · obtain ⟨ev, fv, av, k1, k2, k3, k4, k5, k6, k7⟩ := h
    obtain ⟨A, c, rfl, -⟩ := Op.rown_form k4
    exact ⟨ev, fv, A, _, c, k1, k2.1, k3.1, k5, k6, k7⟩
theorem row_read {α : Type} {T : TypeId} {K : Nat} {R S : World → α → List Value → Prop} {w : World} {l : List α} {v : Value} (h : RowR T K R w l v) (hR : ∀ a ∈ l, ∀ x, R w a x → S w a x) : RowN K S w l v := by
  obtain ⟨A, c, rfl, h1, h2, h3⟩ := h
  refine ⟨A, c, rfl, h1, h2, fun i a hi => ?_⟩
  obtain ⟨g, x, cs, f, e1, e2, e3, e4, e5⟩ := h3 i a hi
  refine ⟨g, 0, x, e1, lt_of_block e2, hR a (List.mem_of_getElem? hi) x e3, e4, fun k hk => ?_⟩
  rw [← e5 k hk, Nat.zero_add]
  simp [World.cell?, e2]
def FitU (u : Unt) : Prop := u.name.length ≤ maxLen ∧ u.out.name.length ≤ maxLen ∧ (∀ p ∈ u.ins, p.name.length ≤ maxLen) ∧ (∀ p ∈ u.vars, p.name.length ≤ maxLen) ∧ (∀ q ∈ u.eqs, q.name.length ≤ maxLen ∧ Short q.e) ∧ (∀ i ∈ u.items, i.name.length ≤ maxLen ∧ Short i.e ∧ Short i.f)
theorem unt_read {w : World} (u : Unt) (x : List Value) (hf : FitU u) (h : UntV w u x) : UntN w u x := by
  obtain ⟨iv, vv, qv, lv, h1, h2, h3, h4, h5⟩ := h
  obtain ⟨f1, f2, f3, f4, f5, f6⟩ := hf
  refine ⟨iv, vv, qv, lv, h1, row_read h2 (fun a ha x h => ⟨h, f3 a ha⟩), row_read h3 (fun a ha x h => ⟨h, f4 a ha⟩), row_read h4 (fun a ha x h => ?_), row_read h5 (fun a ha x h => ?_), f1, f2⟩
  · obtain ⟨ev, k1, k2⟩ := h
    exact ⟨ev, k1, k2.1, f5 a ha⟩
  · obtain ⟨ev, fv, av, k1, k2, k3, k4⟩ := h
    obtain ⟨A, c, rfl, -⟩ := k4
    exact ⟨ev, fv, A, _, c, k1, k2.1, k3.1, f6 a ha⟩
end Go.Proofs.YtobkcdkffcenbaaGreatDoor.Ow

/- Maps by names in memory, and what names mean to layer types. Conditions: names are as long as texts may be. -/
namespace Go.Proofs.YtobkcdkffcenbaaGreatDoor.Ty
open Go.ChangeShapes Go.WideShapes Go.ChangeAt Go.RowKit Go.Maps Go.WideMaps
open Go.Proofs.YtobkcdkffcenbaaGreatDoor.Tr (str Bytes str_size Nd Nodes below_new)
open Go.Proofs.YtobkcdkffcenbaaGreatDoor.Pg (Prm Unt)
open Go.Proofs.YtobkcdkffcenbaaGreatDoor.Ow (PrmN UntN RowN)
theorem cells_at {w : World} {B : Nat} {cs : Array Value} {T : TypeId} {f : Nat × Nat} (h : w.heap[B]? = some (.cells cs T f)) (k : Nat) : w.cell? ⟨B, k, none⟩ = cs[k]? := by simp [World.cell?, h]
theorem news_two (w : World) (o o' : Obj) : Below w.heap.size w ((w.alloc o).alloc o') ∧ ((w.alloc o).alloc o').heap[w.heap.size]? = some o ∧ ((w.alloc o).alloc o').heap[w.heap.size + 1]? = some o' :=
  ⟨((Below.refl _ _).alloc (Nat.le_refl _) _).alloc (by simp) _, by rw [Below.heap_alloc _ _ _ (by simp)]; exact heap_alloc_new w o, by have := heap_alloc_new (w.alloc o) o'; rw [show (w.alloc o).heap.size = w.heap.size + 1 by simp] at this; exact this⟩
abbrev ndC (x : Nd) : Array Value := #[.int .i64 x.op, .int .i64 x.a, .int .i64 x.b, .int .i64 x.c, .int .i64 x.n, .string (str x.name)]
theorem lawS : Keyed Tryz.prog 9 := string_keyed Tryz.underlying9
theorem key_name (s : Bytes) (h : s.length ≤ maxLen) : keyOf Tryz.prog 9 (.string (str s)) = some (.string s) := by
  rw [keyOf_string_mk Tryz.underlying9 (by rw [str_size]; exact h)]
  simp [str]
def heldE (v : Value) : Option (DataW Value × List MemPlace) := some (.held v, [])
def MapIs (w : World) (b n : Nat) (f : Bytes → Option Value) : Prop :=
  ∃ D : DataW Value, w.ownsMap Tryz.prog 9 heldE b n D ∧ ∀ s : Bytes, Maps.has D (.string s) = (f s).isSome ∧ ∀ v z, f s = some v → D.atKey (.string s) z = .held v
theorem MapIs.made (w : World) : MapIs (w.alloc (.map #[] 0)) w.heap.size 0 (fun _ => none) :=
  ⟨.map [], World.ownsMap_made _ _ _ _, fun s => ⟨rfl, fun v z h => by cases h⟩⟩
theorem MapIs.lt {w : World} {b n : Nat} {f : Bytes → Option Value} (h : MapIs w b n f) : b < w.heap.size := by
  obtain ⟨D, h1, _⟩ := h; exact h1.lt
theorem MapIs.keep {w w' : World} {b n : Nat} {f : Bytes → Option Value} (h : MapIs w b n f) (hb : w'.heap[b]? = w.heap[b]?) : MapIs w' b n f := by
  obtain ⟨D, ⟨es, clock, h1, h2⟩, h3⟩ := h
  exact ⟨D, ⟨es, clock, hb.trans h1, h2⟩, h3⟩
theorem MapIs.below {w w' : World} {b n B : Nat} {f : Bytes → Option Value} (h : MapIs w b n f) (hb : Below B w w') (hB : b < B) : MapIs w' b n f := h.keep (hb.block b hB)
theorem MapIs.alloc {w : World} {b n : Nat} {f : Bytes → Option Value} (h : MapIs w b n f) (o : Obj) : MapIs (w.alloc o) b n f := h.keep (Below.heap_alloc _ _ _ h.lt)
theorem MapIs.grown {w w' : World} {b n : Nat} {row : Option Nat} {f : Bytes → Option Value} (h : MapIs w b n f) (hg : w.grownBy w' row) (hne : some b ≠ row) : MapIs w' b n f := h.keep (hg.block b h.lt hne)
theorem MapIs.mono {w : World} {b n m : Nat} {f : Bytes → Option Value} (h : MapIs w b n f) (hn : n ≤ m) : MapIs w b m f := by
  obtain ⟨D, h1, h2⟩ := h; exact ⟨D, h1.mono hn, h2⟩
theorem MapIs.look {w : World} {b n : Nat} {f : Bytes → Option Value} (h : MapIs w b n f) {t e : TypeId} {z : Value} (ht : Tryz.prog.underlying t = some (.map 9 e)) (hz : (zeroValue e).run Tryz.prog w = .ok z w) (s : Bytes) (hs : s.length ≤ maxLen) :
    (Instr.lookup t (.map (some b)) (.string (str s)) true).run Tryz.prog w = .ok (.tuple #[(f s).getD z, .bool (f s).isSome]) w := by
  obtain ⟨D, own, hD⟩ := h
  obtain ⟨v, ps, hrun, hv⟩ := own.look_ok lawS ht hz (zd := .held z) (zp := []) rfl (key_name s hs)
  have hv' : DataW.held v = D.atKey (.string s) (.held z) := by
    unfold heldE at hv
    simp only [Option.some.injEq, Prod.mk.injEq] at hv
    exact hv.1
  rw [hrun, (hD s).1]
  cases hf : f s with
  | some u =>
    rw [(hD s).2 u (.held z) hf] at hv'
    have hv' := DataW.held.inj hv'
    simp only [Option.getD_some, Option.isSome_some, hv']
  | none =>
    have h0 : Maps.has D (.string s) = false := by rw [(hD s).1, hf]; rfl
    rw [atKey_of_not_has h0] at hv'
    have hv' := DataW.held.inj hv'
    simp only [Option.getD_none, Option.isSome_none, hv']
theorem MapIs.put {w : World} {b n : Nat} {f : Bytes → Option Value} (h : MapIs w b n f) {t e : TypeId} (ht : Tryz.prog.underlying t = some (.map 9 e)) (hn : n < maxLen) (s : Bytes) (hs : s.length ≤ maxLen) (v : Value) :
    ∃ w', (Instr.mapUpdate t (.map (some b)) (.string (str s)) v).run Tryz.prog w = .ok () w' ∧ MapIs w' b (n + 1) (fun x => if x = s then some v else f x) ∧ w.grownBy w' (some b) := by
  obtain ⟨D, own, hD⟩ := h
  have hI := own.isMap
  obtain ⟨w', hrun, hown, hg⟩ := own.update lawS ht hn (key_name s hs) (d := .held v) (ps := []) rfl
  refine ⟨w', hrun, ⟨_, hown, fun x => ?_⟩, hg⟩
  show Maps.has _ _ = (if x = s then some v else f x).isSome ∧ ∀ u z, (if x = s then some v else f x) = some u → _
  by_cases hx : x = s
  · subst hx
    rw [if_pos rfl]
    exact ⟨has_put_same hI (show WideAt.IsKeyLit (.string x) from trivial) _, fun u z hu => by cases hu; exact atKey_put_same hI (show WideAt.IsKeyLit (.string x) from trivial) _ _⟩
  · have hne : (Lit.string x) ≠ .string s := fun h => hx (by injection h)
    rw [if_neg hx]
    exact ⟨(has_put_other hne _).trans (hD x).1, fun u z hu => (atKey_put_other hne _ _).trans ((hD x).2 u z hu)⟩
def StrAt (w : World) (v : Value) (n : Nat) (f : Bytes → Option Int) : Prop := ∃ b, v = .map (some b) ∧ MapIs w b n (fun s => (f s).map (Value.int .i64 ·))
def NodIn (w0 w : World) (b n : Nat) (g : Bytes → Option (List Int × Int)) : Prop :=
  Below w0.heap.size w0 w ∧ w0.heap.size ≤ b ∧ ∃ G : Bytes → Option (Unt × List Value), MapIs w b n (fun s => (G s).map (fun p => Value.agg p.2.toArray)) ∧
    ∀ s, (G s = none → g s = none) ∧ ∀ p, G s = some p → UntN w0 p.1 p.2 ∧ g s = some (p.1.ins.map (·.ty), p.1.out.ty)
def NodAt (w : World) (v : Value) (n : Nat) (g : Bytes → Option (List Int × Int)) : Prop :=
  (v = .map none ∧ ∀ s, g s = none) ∨ ∃ (w0 : World) (b : Nat), v = .map (some b) ∧ NodIn w0 w b n g
theorem NodIn.made {w0 w : World} (h : Below w0.heap.size w0 w) : NodIn w0 (w.alloc (.map #[] 0)) w.heap.size 0 (fun _ => none) :=
  ⟨h.alloc h.size _, h.size, fun _ => none, MapIs.made w, fun s => ⟨fun _ => rfl, fun p h => by cases h⟩⟩
theorem NodIn.below {w0 w w' : World} {b n : Nat} {g : Bytes → Option (List Int × Int)} (h : NodIn w0 w b n g) (hb : Below w.heap.size w w') : NodIn w0 w' b n g := by
  obtain ⟨h1, h2, G, h3, h4⟩ := h
  exact ⟨h1.trans (hb.mono h1.size), h2, G, h3.below hb h3.lt, h4⟩
theorem NodIn.grown {w0 w w' : World} {b n m : Nat} {g : Bytes → Option (List Int × Int)} (h : NodIn w0 w b n g) (hg : w.grownBy w' (some m)) (hm : w0.heap.size ≤ m) (hne : b ≠ m) : NodIn w0 w' b n g := by
  obtain ⟨h1, h2, G, h3, h4⟩ := h
  exact ⟨h1.grown hg h1.size (fun k hk => by cases hk; exact hm), h2, G, h3.grown hg (fun e => hne (by injection e)), h4⟩
theorem NodIn.lt {w0 w : World} {b n : Nat} {g : Bytes → Option (List Int × Int)} (h : NodIn w0 w b n g) : b < w.heap.size := by
  obtain ⟨_, _, G, h3, _⟩ := h; exact h3.lt
theorem StrAt.below {w w' : World} {v : Value} {n : Nat} {f : Bytes → Option Int} (h : StrAt w v n f) (hb : Below w.heap.size w w') : StrAt w' v n f := by
  obtain ⟨b, h1, h2⟩ := h; exact ⟨b, h1, h2.below hb h2.lt⟩
theorem NodAt.below {w w' : World} {v : Value} {n : Nat} {g : Bytes → Option (List Int × Int)} (h : NodAt w v n g) (hb : Below w.heap.size w w') : NodAt w' v n g := by
  rcases h with h | ⟨w0, b, h1, h2⟩
  · exact .inl h
  · exact .inr ⟨w0, b, h1, h2.below hb⟩
def TwoPost (w : World) (p : Int × Int) (e : Ending) (w' : World) : Prop := e = .returned (.tuple #[.int .i64 p.1, .int .i64 p.2]) ∧ Below w.heap.size w w'
theorem two_of {w w' : World} {a b : Int} {p : Int × Int} (h : p = (a, b)) (hb : Below w.heap.size w w') : TwoPost w p (.returned (.tuple #[.int .i64 a, .int .i64 b])) w' := by subst h; exact ⟨rfl, hb⟩
def strR (x : Option Int) : Int × Int := match x with | some t => (t, 0) | none => (0, 8)
theorem zeroInt (w : World) : (zeroValue 3).run Tryz.prog w = .ok (.int .i64 0) w := by kernel_rfl
set_option maxRecDepth 100000 in
set_option maxHeartbeats 1600000 in
theorem stream_any (sv nv : Value) (n : Nat) (f : Bytes → Option Int) (s : Bytes) (w : World) (hm : StrAt w sv n f) (hs : s.length ≤ maxLen) : Calls Tryz.prog 64 #[.agg #[sv, nv], .string (str s)] w (TwoPost w (strR (f s))) := by
  obtain ⟨b, rfl, hm⟩ := hm
  have hl : ∀ o, (Instr.lookup 58 (.map (some b)) (.string (str s)) true).run Tryz.prog (w.alloc o) = .ok (.tuple #[((f s).map (Value.int .i64 ·)).getD (.int .i64 0), .bool ((f s).map (Value.int .i64 ·)).isSome]) (w.alloc o) :=
    fun o => (hm.alloc o).look Tryz.underlying58 (zeroInt _) s hs
  have hb := hm.lt
  clear hm
  cases hf : f s with
  | none =>
    rw [hf] at hl
    simp only [Option.map_none, Option.getD_none, Option.isSome_none] at hl
    clear hf
    go_enter Tryz.func64, Tryz.ntmps64
    go_wp2
    go_ret2
    exact ⟨rfl, below_new w _⟩
  | some t =>
    rw [hf] at hl
    simp only [Option.map_some, Option.getD_some, Option.isSome_some] at hl
    clear hf
    go_enter Tryz.func64, Tryz.ntmps64
    go_wp2
    go_ret2
    exact ⟨rfl, below_new w _⟩
def addF (f : Bytes → Option Int) (p : Prm) : Bytes → Option Int := fun s => if s = p.name ∧ (f s).isNone = true then some p.ty else f s
def AddPost (w : World) (b : Nat) (n : Nat) (f : Bytes → Option Int) (p : Prm) (e : Ending) (w' : World) : Prop :=
  e = .returned (.tuple #[]) ∧ StrAt w' (.map (some b)) (n + 1) (addF f p) ∧ w.heap.size ≤ w'.heap.size ∧ w.grownBy w' (some b)
set_option maxRecDepth 100000 in
set_option maxHeartbeats 1600000 in
theorem addS_any (b : Nat) (nv : Value) (n : Nat) (f : Bytes → Option Int) (p : Prm) (w : World) (hm : StrAt w (.map (some b)) n f) (hn : n < maxLen) (hs : p.name.length ≤ maxLen) :
    Calls Tryz.prog 21 #[.agg #[.map (some b), nv], .agg #[.string (str p.name), .int .i64 p.ty]] w (AddPost w b n f p) := by
  obtain ⟨b', hb', hm⟩ := hm
  simp only [Value.map.injEq, Option.some.injEq] at hb'
  subst hb'
  obtain ⟨s, ty⟩ := p
  simp only at hs
  have HM := Lib.hid hm
  have hl : ∀ o o', (Instr.lookup 58 (.map (some b)) (.string (str s)) true).run Tryz.prog ((w.alloc o).alloc o') = .ok (.tuple #[((f s).map (Value.int .i64 ·)).getD (.int .i64 0), .bool ((f s).map (Value.int .i64 ·)).isSome]) ((w.alloc o).alloc o') :=
    fun o o' => ((hm.alloc o).alloc o').look Tryz.underlying58 (zeroInt _) s hs
  have hb := hm.lt
  cases hf : f s with
  | some t =>
    rw [hf] at hl
    simp only [Option.map_some, Option.getD_some, Option.isSome_some] at hl
    have HF : Hid (addF f ⟨s, ty⟩ = f) := Lib.hid (by
      funext x
      unfold addF
      by_cases hx : x = s
      · subst hx; simp [hf]
      · simp [hx])
    clear hf hm
    go_enter Tryz.func21, Tryz.ntmps21
    go_wp2
    go_end0
    refine ⟨rfl, ?_, by simp; omega, ?_⟩
    · rw [HF.out]
      exact ⟨b, rfl, ((HM.out.alloc _).alloc _).mono (Nat.le_succ _)⟩
    · exact ⟨rfl, rfl, rfl, by simp; omega, fun i hi _ => (Below.heap_alloc _ _ _ (by simp; omega)).trans (Below.heap_alloc _ _ _ hi)⟩
  | none =>
    rw [hf] at hl
    simp only [Option.map_none, Option.getD_none, Option.isSome_none] at hl
    obtain ⟨w3, hrun, hm3, hg3⟩ := ((hm.alloc (.cells #[.map (some b), nv] 60)).alloc (.cells #[.string (str s), .int .i64 ty] 45)).put Tryz.underlying58 hn s hs (.int .i64 ty)
    have HM3 : Hid (MapIs w3 b (n + 1) (fun x => (addF f ⟨s, ty⟩ x).map (Value.int .i64 ·))) := Lib.hid (by
      have : (fun x => (addF f ⟨s, ty⟩ x).map (Value.int .i64 ·)) = (fun x => if x = s then some (Value.int .i64 ty) else (f x).map (Value.int .i64 ·)) := by
        funext x
        unfold addF
        by_cases hx : x = s
        · subst hx; simp [hf]
        · simp [hx]
      rw [this]; exact hm3)
    have HG3 := Lib.hid hg3
    have hs3 := hg3.size
    simp at hs3
    clear hf hm hm3 hg3
    go_enter Tryz.func21, Tryz.ntmps21
    go_wp2
    go_end0
    exact ⟨rfl, ⟨b, rfl, HM3.out⟩, by omega, ⟨HG3.out.os, HG3.out.tape, HG3.out.output, by omega, fun i hi hne => (HG3.out.block i (by simp; omega) hne).trans ((Below.heap_alloc _ _ _ (by simp; omega)).trans (Below.heap_alloc _ _ _ hi))⟩⟩
end Go.Proofs.YtobkcdkffcenbaaGreatDoor.Ty

/- Layer types: a call's arguments and types by numbers. Conditions: the slices are read as lists. -/
namespace Go.Proofs.YtobkcdkffcenbaaGreatDoor.Ty
open Go.ChangeShapes Go.WideShapes Go.ChangeAt Go.RowKit
open Go.Proofs.YtobkcdkffcenbaaGreatDoor.Tr
def pickM (L N : List Int) : List Int := N.map fun k => L.getD k.toNat 0
def pickAt (L N : List Int) (k : Nat) : List Int := (N.take k).map (fun k => L.getD k.toNat 0) ++ List.replicate (N.length - k) 0
theorem pickAt_len (L N : List Int) {k : Nat} (h : k ≤ N.length) : (pickAt L N k).length = N.length := by unfold pickAt; simp; omega
theorem pickAt_zero (L N : List Int) : pickAt L N 0 = List.replicate N.length 0 := by unfold pickAt; simp
theorem pickAt_all (L N : List Int) : pickAt L N N.length = pickM L N := by unfold pickAt pickM; simp
theorem pickAt_next {L N : List Int} {k : Nat} {x : Int} (h : N[k]? = some x) : (pickAt L N k).set k (L.getD x.toNat 0) = pickAt L N (k + 1) := by
  have hk := (List.getElem?_eq_some_iff.1 h).1
  unfold pickAt
  rw [List.take_add_one, h, show (some x).toList = [x] from rfl, List.map_append]
  have e : N.length - k = (N.length - (k + 1)) + 1 := by omega
  rw [e, List.replicate_succ]
  have hl : ((N.take k).map fun k => L.getD k.toNat 0).length = k := by simp; omega
  rw [List.set_append_right _ _ (by omega), hl, Nat.sub_self, List.set_cons_zero, List.append_assoc]
  rfl
set_option maxRecDepth 100000 in
set_option maxHeartbeats 4000000 in
theorem picked_any (tv nv : Value) (L N : List Int) (w : World) (ht : Ints w tv L) (hn : Ints w nv N) (hN : ∀ k ∈ N, 0 ≤ k ∧ k < L.length) (hNl : N.length ≤ 1000000) : Calls Tryz.prog 72 #[tv, nv] w (IntsPost w (pickM L N)) := by
  obtain ⟨A, c, rfl, t1, t2, hA⟩ := ht
  obtain ⟨B, d, rfl, n1, n2, hB⟩ := hn
  unfold maxLen at t2 n2
  have HA := Lib.hid hA
  have HB := Lib.hid hB
  have HN := Lib.hid hN
  obtain ⟨i0, hi, hz0, hz1, hz2⟩ := info_parts info3
  have HM := Lib.hid (pickAt_all L N)
  have hlen : (pickM L N).length = N.length := by unfold pickM; simp
  have HLEN := Lib.hid hlen
  clear hA hB hN hlen
  go_enter Tryz.func72, Tryz.ntmps72
  go_wp2_with (at_make; refine wpList_make_full _ rfl _ _ 72 rfl w.heap.size 3 i0 _ 1 Tryz.underlying72 hi hz0 hz1 _ _ _ _ N.length rfl rfl rfl rfl (by rw [hz2]; omega) (by unfold maxLen; omega) (Nat.le_refl _) ?_)
  intro w1 hown hgrow
  have hb1 : Below w.heap.size w w1 := (Below.refl _ _).grown hgrow (Nat.le_refl _) (fun k hk => by simp at hk)
  have hown0 : w1.ownsRow w.heap.size 3 1 (.slice (some ⟨w.heap.size, 0, none⟩) N.length N.length) N.length (intsOf (pickAt L N 0)) := by
    rw [pickAt_zero, ← made_ints]; exact hown
  have HO := Lib.hid hown0
  have HB1 := Lib.hid hb1
  clear hown hgrow hown0 hb1
  go_wp2
  go_loopw [13] (fun i wr => ∃ k : Nat, k ≤ N.length ∧ i = .int .i64 k ∧ wr.ownsRow w.heap.size 3 1 (.slice (some ⟨w.heap.size, 0, none⟩) N.length N.length) N.length (intsOf (pickAt L N k)) ∧ Below w.heap.size w wr) (fun i _ => N.length - (intOf i).toNat)
  case atStart => exact ⟨0, Nat.zero_le _, rfl, HO.out, HB1.out⟩
  case round =>
    obtain ⟨k, hk, rfl, hown, hb⟩ := hrel
    by_cases hlt : k < N.length
    · obtain ⟨x, hx⟩ : ∃ x, N[k]? = some x := ⟨_, List.getElem?_eq_getElem hlt⟩
      obtain ⟨g, o, rfl, hg, a0⟩ := HB.out k x hx
      have hxl := HN.out x (List.mem_of_getElem? hx)
      obtain ⟨m, rfl⟩ := Int.eq_ofNat_of_zero_le hxl.1
      have hm : m < L.length := by omega
      obtain ⟨y, hy⟩ : ∃ y, L[m]? = some y := ⟨_, List.getElem?_eq_getElem hm⟩
      obtain ⟨g2, o2, rfl, hg2, a1⟩ := HA.out m y hy
      have b0 := (hb.cell (p := ⟨g, o + k, none⟩) hg).trans a0
      have b1 := (hb.cell (p := ⟨g2, o2 + m, none⟩) hg2).trans a1
      have hz := hb.size
      have hpl := pickAt_len L N hk
      obtain ⟨z, hzz⟩ : ∃ z, (pickAt L N k)[k]? = some z := ⟨_, List.getElem?_eq_getElem (by omega)⟩
      have c1 := (hown.cellAt k (by omega)).trans (intsOf_get _ k _ hzz)
      have f1 := hown.frozenAt k
      have HNX : Hid ((pickAt L N k).set k y = pickAt L N (k + 1)) := Lib.hid (by
        have := pickAt_next (L := L) hx
        simpa [List.getD, hy] using this)
      have HO2 : Hid ((wr.setCell ⟨w.heap.size, k, none⟩ (.int .i64 y)).ownsRow w.heap.size 3 1 (.slice (some ⟨w.heap.size, 0, none⟩) N.length N.length) N.length (intsOf (pickAt L N (k + 1)))) := Lib.hid (by
        rw [← HNX.out, intsOf_set]
        exact (hown.stored k (.int .i64 y)).1)
      have HBK := Lib.hid hb
      clear hx hy a0 a1 hown hb hpl hzz
      go_wp2
      refine ⟨⟨k + 1, by omega, by go_num, HO2.out, HBK.out.setCell (by simp) _⟩, by simp [intOf]; omega⟩
    · have hkl : k = N.length := by omega
      subst hkl
      rw [HM.out] at hown
      have HO2 : Hid (wr.ownsRow w.heap.size 3 1 (.slice (some ⟨w.heap.size, 0, none⟩) N.length N.length) (pickM L N).length (intsOf (pickM L N))) := Lib.hid (by rw [HLEN.out]; exact hown)
      have HBK := Lib.hid hb
      clear hown hb
      go_wp2
      go_ret
      exact ⟨_, rfl, HO2.out, HBK.out⟩
end Go.Proofs.YtobkcdkffcenbaaGreatDoor.Ty

