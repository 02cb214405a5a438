/- Arguments that are programs: what they read as. Conditions: none. -/
import Derived.Test.YtndmhbocfmnhgaaQa01
import Derived.Test.YtndmhbocfmnhgaaPq16
import Derived.Deep.Slices
import Derived.Test.YtndmhbocfmnhgaaQd00
import Derived.Laws.AppendOwnNone
namespace Go.Proofs.Ytndmhbocfmnhgaa.Op
open Go.ChangeShapes Go.WideShapes Go.ChangeAt Go.RowKit Go.Deep
open Go.Proofs.Ytndmhbocfmnhgaa.Tr Go.Proofs.Ytndmhbocfmnhgaa.Pg
set_option linter.unusedVariables false
set_option linter.unusedSimpArgs false
set_option maxRecDepth 100000

instance : Inhabited Prm := ⟨⟨[], 0⟩⟩
instance : Inhabited Eqn := ⟨⟨[], []⟩⟩
instance : Inhabited Itm := ⟨⟨0, [], 0, [], [], []⟩⟩
instance : Inhabited Unt := ⟨⟨false, [], [], ⟨[], 0⟩, [], [], []⟩⟩
/-- A slice that reads as a list: K cells for each of its elements, wherever it lies. -/
def RowN {α : Type} (K : Nat) (R : World → α → List Value → Prop) (w : World) (l : List α) (v : Value) : Prop :=
  ∃ A c, v = .slice A l.length c ∧ l.length ≤ c ∧ c ≤ maxLen ∧ (A = none → c = 0) ∧ ∀ (i : Nat) (a : α), l[i]? = some a → ∃ (g o : Nat) (x : List Value), A = some ⟨g, o, none⟩ ∧ g < w.heap.size ∧ R w a x ∧ x.length = K ∧ ∀ k, k < K → w.cell? ⟨g, o + i * K + k, none⟩ = x[k]?
def NodesZ (w : World) (v : Value) (e : List Nd) : Prop := Nodes w v e ∧ ∀ c, v = .slice none 0 c → c = 0
def PrmN (w : World) (p : Prm) (x : List Value) : Prop := x = [.string (str p.name), .int .i64 p.ty] ∧ p.name.length ≤ maxLen
def EqnN (w : World) (q : Eqn) (x : List Value) : Prop := ∃ ev, x = [.string (str q.name), ev] ∧ NodesZ w ev q.e ∧ q.name.length ≤ maxLen ∧ Short q.e
def ExpN (w : World) (e : List Nd) (x : List Value) : Prop := ∃ ev, x = [ev] ∧ NodesZ w ev e ∧ Short e
def ItmN (w : World) (i : Itm) (x : List Value) : Prop := ∃ ev fv av, x = [.int .i64 i.kind, .string (str i.name), .int .i64 i.ty, ev, fv, av] ∧ NodesZ w ev i.e ∧ NodesZ w fv i.f ∧ RowN 1 ExpN w i.args av ∧ i.name.length ≤ maxLen ∧ Short i.e ∧ Short i.f
def UntN (w : World) (u : Unt) (x : List Value) : Prop := ∃ iv vv qv lv, x = [.bool u.contract, .string (str u.name), iv, .string (str u.out.name), .int .i64 u.out.ty, vv, qv, lv] ∧ RowN 2 PrmN w u.ins iv ∧ RowN 2 PrmN w u.vars vv ∧ RowN 2 EqnN w u.eqs qv ∧ RowN 6 ItmN w u.items lv ∧ u.name.length ≤ maxLen ∧ u.out.name.length ≤ maxLen

theorem NodesZ.below {w w' : World} {v : Value} {e : List Nd} (h : NodesZ w v e) (hb : Below w.heap.size w w') : NodesZ w' v e := by
  obtain ⟨⟨A, c, e1, h1, h2, h3⟩, h4⟩ := h
  refine ⟨⟨A, c, e1, h1, h2, fun i t hi => ?_⟩, h4⟩
  obtain ⟨g, o, rfl, hlt, c0, c1, c2, c3, c4, c5⟩ := h3 i t hi
  have q : ∀ k, w'.cell? ⟨g, k, none⟩ = w.cell? ⟨g, k, none⟩ := fun k => hb.cell (p := ⟨g, k, none⟩) hlt
  exact ⟨g, o, rfl, by have := hb.size; omega, (q _).trans c0, (q _).trans c1, (q _).trans c2, (q _).trans c3, (q _).trans c4, (q _).trans c5⟩
theorem RowN.below {α : Type} {K : Nat} {R : World → α → List Value → Prop} {w w' : World} {l : List α} {v : Value} (h : RowN K R w l v) (hb : Below w.heap.size w w') (hR : ∀ a x, R w a x → R w' a x) : RowN K R w' l v := by
  obtain ⟨A, c, rfl, h1, h2, h0, h3⟩ := h
  refine ⟨A, c, rfl, h1, h2, h0, fun i a hi => ?_⟩
  obtain ⟨g, o, x, e1, e2, e3, e4, e5⟩ := h3 i a hi
  exact ⟨g, o, x, e1, by have := hb.size; omega, hR a x e3, e4, fun k hk => (hb.cell (p := ⟨g, o + i * K + k, none⟩) e2).trans (e5 k hk)⟩
theorem PrmN.below {w w' : World} (hb : Below w.heap.size w w') (p : Prm) (x : List Value) (h : PrmN w p x) : PrmN w' p x := h
theorem EqnN.below {w w' : World} (hb : Below w.heap.size w w') (p : Eqn) (x : List Value) (h : EqnN w p x) : EqnN w' p x := by
  obtain ⟨ev, h1, h2, h3⟩ := h; exact ⟨ev, h1, h2.below hb, h3⟩
theorem ExpN.below {w w' : World} (hb : Below w.heap.size w w') (p : List Nd) (x : List Value) (h : ExpN w p x) : ExpN w' p x := by
  obtain ⟨ev, h1, h2, h3⟩ := h; exact ⟨ev, h1, h2.below hb, h3⟩
theorem ItmN.below {w w' : World} (hb : Below w.heap.size w w') (p : Itm) (x : List Value) (h : ItmN w p x) : ItmN w' p x := by
  obtain ⟨ev, fv, av, h1, h2, h3, h4, h5⟩ := h; exact ⟨ev, fv, av, h1, h2.below hb, h3.below hb, h4.below hb (ExpN.below hb), h5⟩
theorem UntN.below {w w' : World} (hb : Below w.heap.size w w') (p : Unt) (x : List Value) (h : UntN w p x) : UntN w' p x := by
  obtain ⟨iv, vv, qv, lv, h1, h2, h3, h4, h5, h6⟩ := h
  exact ⟨iv, vv, qv, lv, h1, h2.below hb (PrmN.below hb), h3.below hb (PrmN.below hb), h4.below hb (EqnN.below hb), h5.below hb (ItmN.below hb), h6⟩
theorem rown_at {α : Type} {K : Nat} {R : World → α → List Value → Prop} {w : World} {l : List α} {v : Value} {i : Nat} {a : α} (h : RowN K R w l v) (hi : l[i]? = some a) :
    ∃ g o c x, v = .slice (some ⟨g, o, none⟩) l.length c ∧ g < w.heap.size ∧ R w a x ∧ x.length = K ∧ ∀ k, k < K → w.cell? ⟨g, o + i * K + k, none⟩ = x[k]? := by
  obtain ⟨A, c, rfl, h1, h2, h0, h3⟩ := h
  obtain ⟨g, o, x, rfl, e2, e3, e4, e5⟩ := h3 i a hi
  exact ⟨g, o, c, x, rfl, e2, e3, e4, e5⟩
theorem rown_form {α : Type} {K : Nat} {R : World → α → List Value → Prop} {w : World} {l : List α} {v : Value} (h : RowN K R w l v) : ∃ A c, v = .slice A l.length c ∧ l.length ≤ c ∧ c ≤ maxLen ∧ (A = none → c = 0) := by
  obtain ⟨A, c, rfl, h1, h2, h0, -⟩ := h
  exact ⟨A, c, rfl, h1, h2, h0⟩
theorem nodesz_form {w : World} {v : Value} {e : List Nd} (h : NodesZ w v e) : ∃ A c, v = .slice A e.length c ∧ e.length ≤ c ∧ c ≤ maxLen := by
  obtain ⟨⟨A, c, e1, h1, h2, h3⟩, h4⟩ := h
  exact ⟨A, c, e1, h1, h2⟩

theorem cells4 : Try.prog.cellsOf 4 = 1 := by kernel_rfl
theorem cells23 : Try.prog.cellsOf 23 = 1 := by kernel_rfl
theorem cells54 : Try.prog.cellsOf 54 = 2 := by kernel_rfl
theorem cells60 : Try.prog.cellsOf 60 = 2 := by kernel_rfl
theorem cells62 : Try.prog.cellsOf 62 = 6 := by kernel_rfl
theorem cells58 : Try.prog.cellsOf 58 = 8 := by kernel_rfl
theorem cells31 : Try.prog.cellsOf 31 = 3 := by kernel_rfl
theorem cells52 : Try.prog.cellsOf 52 = 1 := by kernel_rfl
theorem cells55 : Try.prog.cellsOf 55 = 1 := by kernel_rfl
theorem cells56 : Try.prog.cellsOf 56 = 1 := by kernel_rfl
theorem cells29 : Try.prog.cellsOf 29 = 1 := by kernel_rfl
theorem cells38 : Try.prog.cellsOf 38 = 1 := by kernel_rfl
section
variable {H : Type} {enc : TypeId × Value → H} {w : World} {base : Nat} {spare : Nat → Bool} {held : Bool}
/-- A slice of any type whose elements read as something reads as a list of these. -/
theorem trod_row {α : Type} [Inhabited α] {t e : TypeId} {K : Nat} {R : World → α → List Value → Prop} (ht : Try.prog.underlying t = some (.slice e)) (hK : Try.prog.cellsOf e = K) (hK0 : 0 < K)
    (one : ∀ (n : Nat) (cs : List Value) (y : DataW H × List MemPlace), DataW.trod enc Try.prog w base spare held n e cs = some y → ∃ a, R w a cs)
    {n : Nat} {cs : List Value} {y : DataW H × List MemPlace} (h : DataW.trod enc Try.prog w base spare held n t cs = some y) : ∃ v l, cs = [v] ∧ RowN K R w l v := by
  rcases open_slice ht h with ⟨rfl, _⟩ | ⟨a, len, cap, m, n', D, Pl, rfl, hb, hl, hm, hmm, _, hi⟩
  · exact ⟨_, [], rfl, none, 0, rfl, by simp, by unfold maxLen; omega, fun _ => rfl, fun i t h => by simp at h⟩
  · have hml : len ≤ m := by rw [hmm]; split <;> omega
    have each : ∀ i, i < len → ∃ x : α × List Value, R w x.1 x.2 ∧ x.2.length = K ∧ ∀ k, k < K → w.cell? (a.add (i * K + k)) = x.2[k]? := fun i hil => by
      obtain ⟨cs', hc, ht'⟩ := hi i (by omega)
      obtain ⟨x, hx⟩ := one _ _ _ ht'
      obtain ⟨_, hcl, hat⟩ := World.cells?_some hc
      rw [hK] at hat hcl
      exact ⟨(x, cs'), hx, hcl, fun k hk => by rw [← Go.Deep.add_add]; exact hat k hk⟩
    obtain ⟨X, hX⟩ := Go.Deep.choose_lt each
    refine ⟨_, (List.range len).map fun i => (X i).1, rfl, some a, cap, by simp, by simpa using hl, hm, (fun h => by cases h), fun i x hx => ?_⟩
    have hil : i < len := by have := (List.getElem?_eq_some_iff.1 hx).1; simpa using this
    rw [List.getElem?_map, List.getElem?_range hil] at hx
    simp only [Option.map_some, Option.some.injEq] at hx
    subst hx
    obtain ⟨_, l0, h0⟩ := hX 0 (by omega)
    have h0 := h0 0 hK0
    rw [List.getElem?_eq_getElem (by omega), Nat.zero_mul] at h0
    obtain ⟨g, o, rfl, hg⟩ := spot_none h0
    obtain ⟨q1, q2, q3⟩ := hX i hil
    refine ⟨g, o, (X i).2, rfl, hg, q1, q2, fun k hk => ?_⟩
    have := q3 k hk
    rw [add_none] at this
    rw [Nat.add_assoc]; exact this
theorem prm_cells (n : Nat) (cs : List Value) (y : DataW H × List MemPlace) (h : DataW.trod enc Try.prog w base spare held n 54 cs = some y) : ∃ a, PrmN w a cs := by
  obtain ⟨xs, m, _, _, hlen, hxl, hf⟩ := DataW.trod_struct Try.underlying54 h
  rw [cells54] at hlen
  have hx6 : xs.length = 2 := hxl
  match cs, hlen, xs, hx6 with
  | [c0, c1], _, [y0, y1], _ =>
    have f0 : DataW.trod enc Try.prog w base spare held m 9 [c0] = some y0 := by have := hf 0 _ rfl; simpa [cells3, cells9] using this
    have f1 : DataW.trod enc Try.prog w base spare held m 3 [c1] = some y1 := by have := hf 1 _ rfl; simpa [cells3, cells9] using this
    obtain ⟨s, e0, -, hs⟩ := DataW.trod_string Try.underlying9 f0
    obtain ⟨n1, e1, -, -⟩ := DataW.trod_int Try.underlying3 f1
    simp only [List.cons.injEq, and_true] at e0 e1
    subst e0 e1
    refine ⟨⟨s.toList, n1⟩, by rw [str_of], ?_⟩
    rw [ByteArray.toList_eq]; simpa using hs
theorem nodes_cells {n : Nat} {c : Value} {y : DataW H × List MemPlace} (h : DataW.trod enc Try.prog w base spare held n 23 [c] = some y) : ∃ l, NodesZ w c l ∧ Short l := by
  obtain ⟨u, l, hcs, h1, h2, h3⟩ := trod_nodes Try.underlying23 h
  simp only [List.cons.injEq, and_true] at hcs
  subst hcs
  exact ⟨l, ⟨h1, h3⟩, h2⟩
theorem exp_cells (n : Nat) (cs : List Value) (y : DataW H × List MemPlace) (h : DataW.trod enc Try.prog w base spare held n 23 cs = some y) : ∃ a, ExpN w a cs := by
  obtain ⟨u, l, hcs, h1, h2, h3⟩ := trod_nodes Try.underlying23 h
  exact ⟨l, u, hcs, ⟨h1, h3⟩, h2⟩
theorem eqn_cells (n : Nat) (cs : List Value) (y : DataW H × List MemPlace) (h : DataW.trod enc Try.prog w base spare held n 60 cs = some y) : ∃ a, EqnN w a cs := by
  obtain ⟨xs, m, _, _, hlen, hxl, hf⟩ := DataW.trod_struct Try.underlying60 h
  rw [cells60] at hlen
  have hx6 : xs.length = 2 := hxl
  match cs, hlen, xs, hx6 with
  | [c0, c1], _, [y0, y1], _ =>
    have f0 : DataW.trod enc Try.prog w base spare held m 9 [c0] = some y0 := by have := hf 0 _ rfl; simpa [cells23, cells9] using this
    have f1 : DataW.trod enc Try.prog w base spare held m 23 [c1] = some y1 := by have := hf 1 _ rfl; simpa [cells23, cells9] using this
    obtain ⟨s, e0, -, hs⟩ := DataW.trod_string Try.underlying9 f0
    obtain ⟨l, h1, h2⟩ := nodes_cells f1
    simp only [List.cons.injEq, and_true] at e0
    subst e0
    refine ⟨⟨s.toList, l⟩, c1, by rw [str_of], h1, ?_, h2⟩
    rw [ByteArray.toList_eq]; simpa using hs
theorem itm_cells (n : Nat) (cs : List Value) (y : DataW H × List MemPlace) (h : DataW.trod enc Try.prog w base spare held n 62 cs = some y) : ∃ a, ItmN w a cs := by
  obtain ⟨xs, m, _, _, hlen, hxl, hf⟩ := DataW.trod_struct Try.underlying62 h
  rw [cells62] at hlen
  have hx6 : xs.length = 6 := hxl
  match cs, hlen, xs, hx6 with
  | [c0, c1, c2, c3, c4, c5], _, [y0, y1, y2, y3, y4, y5], _ =>
    have f0 : DataW.trod enc Try.prog w base spare held m 3 [c0] = some y0 := by have := hf 0 _ rfl; simpa [cells3, cells9, cells23, cells38] using this
    have f1 : DataW.trod enc Try.prog w base spare held m 9 [c1] = some y1 := by have := hf 1 _ rfl; simpa [cells3, cells9, cells23, cells38] using this
    have f2 : DataW.trod enc Try.prog w base spare held m 3 [c2] = some y2 := by have := hf 2 _ rfl; simpa [cells3, cells9, cells23, cells38] using this
    have f3 : DataW.trod enc Try.prog w base spare held m 23 [c3] = some y3 := by have := hf 3 _ rfl; simpa [cells3, cells9, cells23, cells38] using this
    have f4 : DataW.trod enc Try.prog w base spare held m 23 [c4] = some y4 := by have := hf 4 _ rfl; simpa [cells3, cells9, cells23, cells38] using this
    have f5 : DataW.trod enc Try.prog w base spare held m 38 [c5] = some y5 := by have := hf 5 _ rfl; simpa [cells3, cells9, cells23, cells38] using this
    obtain ⟨n0, e0, -, -⟩ := DataW.trod_int Try.underlying3 f0
    obtain ⟨s, e1, -, hs⟩ := DataW.trod_string Try.underlying9 f1
    obtain ⟨n2, e2, -, -⟩ := DataW.trod_int Try.underlying3 f2
    obtain ⟨l3, h3, k3⟩ := nodes_cells f3
    obtain ⟨l4, h4, k4⟩ := nodes_cells f4
    obtain ⟨v5, l5, e5, h5⟩ := trod_row (R := ExpN) Try.underlying38 cells23 (by omega) exp_cells f5
    simp only [List.cons.injEq, and_true] at e0 e1 e2 e5
    subst e0 e1 e2 e5
    refine ⟨⟨n0, s.toList, n2, l3, l4, l5⟩, c3, c4, c5, by rw [str_of], h3, h4, h5, ?_, k3, k4⟩
    rw [ByteArray.toList_eq]; simpa using hs
theorem unt_cells (n : Nat) (cs : List Value) (y : DataW H × List MemPlace) (h : DataW.trod enc Try.prog w base spare held n 58 cs = some y) : ∃ a, UntN w a cs := by
  obtain ⟨xs, m, _, _, hlen, hxl, hf⟩ := DataW.trod_struct Try.underlying58 h
  rw [cells58] at hlen
  have hx6 : xs.length = 7 := hxl
  match cs, hlen, xs, hx6 with
  | [c0, c1, c2, c3, c4, c5, c6, c7], _, [y0, y1, y2, y3, y4, y5, y6], _ =>
    have f0 : DataW.trod enc Try.prog w base spare held m 4 [c0] = some y0 := by have := hf 0 _ rfl; simpa [cells4, cells9, cells52, cells54, cells55, cells56] using this
    have f1 : DataW.trod enc Try.prog w base spare held m 9 [c1] = some y1 := by have := hf 1 _ rfl; simpa [cells4, cells9, cells52, cells54, cells55, cells56] using this
    have f2 : DataW.trod enc Try.prog w base spare held m 52 [c2] = some y2 := by have := hf 2 _ rfl; simpa [cells4, cells9, cells52, cells54, cells55, cells56] using this
    have f3 : DataW.trod enc Try.prog w base spare held m 54 [c3, c4] = some y3 := by have := hf 3 _ rfl; simpa [cells4, cells9, cells52, cells54, cells55, cells56] using this
    have f4 : DataW.trod enc Try.prog w base spare held m 52 [c5] = some y4 := by have := hf 4 _ rfl; simpa [cells4, cells9, cells52, cells54, cells55, cells56] using this
    have f5 : DataW.trod enc Try.prog w base spare held m 55 [c6] = some y5 := by have := hf 5 _ rfl; simpa [cells4, cells9, cells52, cells54, cells55, cells56] using this
    have f6 : DataW.trod enc Try.prog w base spare held m 56 [c7] = some y6 := by have := hf 6 _ rfl; simpa [cells4, cells9, cells52, cells54, cells55, cells56] using this
    obtain ⟨b, e0, -⟩ := DataW.trod_bool Try.underlying4 f0
    obtain ⟨s, e1, -, hs⟩ := DataW.trod_string Try.underlying9 f1
    obtain ⟨v2, l2, e2, h2⟩ := trod_row (R := PrmN) Try.underlying52 cells54 (by omega) prm_cells f2
    obtain ⟨p, e3, hp⟩ := prm_cells _ _ _ f3
    obtain ⟨v4, l4, e4, h4⟩ := trod_row (R := PrmN) Try.underlying52 cells54 (by omega) prm_cells f4
    obtain ⟨v5, l5, e5, h5⟩ := trod_row (R := EqnN) Try.underlying55 cells60 (by omega) eqn_cells f5
    obtain ⟨v6, l6, e6, h6⟩ := trod_row (R := ItmN) Try.underlying56 cells62 (by omega) itm_cells f6
    simp only [List.cons.injEq, and_true] at e0 e1 e2 e3 e4 e5 e6
    obtain ⟨e3, e3'⟩ := e3
    subst e0 e1 e2 e3 e3' e4 e5 e6
    refine ⟨⟨b, s.toList, l2, p, l4, l5, l6⟩, c2, c5, c6, c7, by rw [str_of], h2, h4, h5, h6, ?_, hp⟩
    rw [ByteArray.toList_eq]; simpa using hs
/-- An argument that is a program. -/
theorem open_prog {r : Reach} {b0 : Nat} {v : Value} {d : DataW H} {p : List MemPlace} (hv : Value.okWide Try.prog w r b0 31 v) (h : DataW.Trod enc Try.prog w base spare held 31 v d p) :
    ∃ uv us m b, v = .agg #[uv, .string (str m), .string (str b)] ∧ RowN 8 UntN w us uv ∧ m.length ≤ maxLen ∧ b.length ≤ maxLen := by
  obtain ⟨cs, rfl, hsz⟩ := okWide_struct Try.underlying31 hv
  obtain ⟨fuel, hf⟩ := h
  obtain ⟨l⟩ := cs
  simp only [Value.cells] at hf
  obtain ⟨xs, m, _, _, hlen, hxl, hf⟩ := DataW.trod_struct Try.underlying31 hf
  rw [cells31] at hlen
  have hx6 : xs.length = 3 := hxl
  match l, hlen, xs, hx6 with
  | [c0, c1, c2], _, [y0, y1, y2], _ =>
    have f0 : DataW.trod enc Try.prog w base spare held m 29 [c0] = some y0 := by have := hf 0 _ rfl; simpa [cells9, cells29] using this
    have f1 : DataW.trod enc Try.prog w base spare held m 9 [c1] = some y1 := by have := hf 1 _ rfl; simpa [cells9, cells29] using this
    have f2 : DataW.trod enc Try.prog w base spare held m 9 [c2] = some y2 := by have := hf 2 _ rfl; simpa [cells9, cells29] using this
    obtain ⟨v0, us, e0, h0⟩ := trod_row (R := UntN) Try.underlying29 cells58 (by omega) unt_cells f0
    obtain ⟨s1, e1, -, hs1⟩ := DataW.trod_string Try.underlying9 f1
    obtain ⟨s2, e2, -, hs2⟩ := DataW.trod_string Try.underlying9 f2
    simp only [List.cons.injEq, and_true] at e0 e1 e2
    subst e0 e1 e2
    refine ⟨c0, us, s1.toList, s2.toList, by rw [str_of, str_of], h0, ?_, ?_⟩
    · rw [ByteArray.toList_eq]; simpa using hs1
    · rw [ByteArray.toList_eq]; simpa using hs2
end
end Go.Proofs.Ytndmhbocfmnhgaa.Op

/- Layer inits: the contract of item. Conditions: what is checked is read as an item. -/
namespace Go.Proofs.Ytndmhbocfmnhgaa.In
open Go.ChangeShapes Go.WideShapes Go.ChangeAt Go.RowKit
open Go.Proofs.Ytndmhbocfmnhgaa.Ex Go.Proofs.Ytndmhbocfmnhgaa.Pg Go.Proofs.Ytndmhbocfmnhgaa.Op
open Go.Proofs.Ytndmhbocfmnhgaa.Tr (str ret_bool ret_int Bytes Nd Nodes)
set_option linter.unusedVariables false
set_option linter.unusedSimpArgs false

theorem info23_H : (Try.prog.info? 23).map (fun i => (i.zero, i.size, i.bytes)) = some (some (.slice none 0 0), 1, 24) := by kernel_rfl
/-- A row of expressions as they lie. -/
theorem args_vals {w : World} {l : List (List Nd)} {v : Value} (h : RowN 1 ExpN w l v) : ∃ (A : Option Addr) (c : Nat) (us : List Value), v = .slice A l.length c ∧ (A = none → c = 0 ∧ l = []) ∧ us.length = l.length ∧
    (∀ (j : Nat) (u : Value) (a : List Nd), us[j]? = some u → l[j]? = some a → NodesZ w u a) ∧ (∀ u ∈ us, u.oneCell' = true) ∧ (∀ ad, A = some ad → ∀ (j : Nat) (u : Value), us[j]? = some u → w.cell? (ad.add j) = some u ∧ ad.block < w.heap.size) := by
  obtain ⟨A, c, rfl, h1, h2, h0, h3⟩ := h
  have key : ∀ i : Nat, ∃ u : Value, ∀ a, l[i]? = some a → ∃ (g o : Nat), A = some ⟨g, o, none⟩ ∧ g < w.heap.size ∧ NodesZ w u a ∧ w.cell? ⟨g, o + i, none⟩ = some u := by
    intro i
    cases hi : l[i]? with
    | none => exact ⟨.slice none 0 0, fun a h => by cases h⟩
    | some a =>
      obtain ⟨g, o, x, e1, e2, ⟨ev, rfl, hz, _⟩, e4, e5⟩ := h3 i a hi
      refine ⟨ev, fun a' h => ?_⟩
      cases h
      refine ⟨g, o, e1, e2, hz, ?_⟩
      have := e5 0 (by omega)
      simpa using this
  obtain ⟨F, hF⟩ := Classical.axiomOfChoice key
  refine ⟨A, c, (List.range l.length).map F, rfl, fun hA => ⟨h0 hA, ?_⟩, by simp, fun j u a hu ha => ?_, fun u hu => ?_, fun ad had j u hu => ?_⟩
  · cases hl : l with
    | nil => rfl
    | cons a r =>
      obtain ⟨g, o, h4, _⟩ := hF 0 a (by rw [hl]; rfl)
      rw [hA] at h4; cases h4
  · have hi := (List.getElem?_eq_some_iff.1 ha).1
    rw [List.getElem?_map, List.getElem?_range hi] at hu
    simp at hu; subst hu
    obtain ⟨g, o, _, _, h6, _⟩ := hF j a ha
    exact h6
  · obtain ⟨i, hi, rfl⟩ := List.mem_map.1 hu
    obtain ⟨a, ha⟩ : ∃ a, l[i]? = some a := ⟨_, List.getElem?_eq_getElem (by simpa using hi)⟩
    obtain ⟨g, o, _, _, h6, _⟩ := hF i a ha
    obtain ⟨A', c', e1, _, _⟩ := nodesz_form h6
    rw [e1]; rfl
  · rw [List.getElem?_map] at hu
    by_cases hj : j < l.length
    · rw [List.getElem?_range hj] at hu
      simp at hu; subst hu
      obtain ⟨a, ha⟩ : ∃ a, l[j]? = some a := ⟨_, List.getElem?_eq_getElem hj⟩
      obtain ⟨g, o, h4, h5, _, h6⟩ := hF j a ha
      rw [h4] at had
      injection had with had
      subst had
      rw [Tr.add_none]
      exact ⟨h6, h5⟩
    · rw [List.getElem?_eq_none (by simp; omega)] at hu; simp at hu
theorem grown_below {n : Nat} {w w' : World} {row : Option Nat} (hn : n ≤ w.heap.size) (h : w.grownBy w' row) (hr : ∀ k, row = some k → n ≤ k) : Below n w w' :=
  ⟨h.os, h.tape, h.output, h.size, fun k hk => h.block k (by omega) (fun e => by have := hr k e.symm; omega)⟩
theorem own_two {w : World} (ev fv : Value) : (w.alloc (.cells #[ev, fv] 23)).ownsRow w.heap.size 23 1 (.slice (some ⟨w.heap.size, 0, none⟩) 2 2) 2 [ev, fv] :=
  ⟨by simp, .inr ⟨w.heap.size, 2, #[ev, fv], rfl, Nat.le_refl _, heap_alloc_new w _, Nat.le_refl _, by unfold maxLen; omega, by simp, by simp⟩⟩
set_option maxRecDepth 100000 in
set_option maxHeartbeats 8000000 in
theorem item_any (i : Itm) (ev fv av : Value) (w : World) (he : NodesZ w ev i.e) (hf : NodesZ w fv i.f) (ha : RowN 1 ExpN w i.args av) (hn : i.args.length ≤ 1000000) :
    Calls Try.prog 51 #[.agg #[.int .i64 i.kind, .string (str i.name), .int .i64 i.ty, ev, fv, av]] w (ErrPost w (itemM i)) := by
  obtain ⟨i0, hi, hz0, hz1, hz2⟩ := info_parts info23_H
  obtain ⟨A3, c3, us, rfl, y0, y1, y3, y4, y5⟩ := args_vals ha
  have hel : ∀ (j : Nat) (u : Value) (a : List Nd), ([ev, fv] ++ us)[j]? = some u → (i.e :: i.f :: i.args)[j]? = some a → NodesZ w u a := by
    intro j u a h1 h2
    match j, h1, h2 with
    | 0, h1, h2 => simp at h1 h2; subst h1; subst h2; exact he
    | 1, h1, h2 => simp at h1 h2; subst h1; subst h2; exact hf
    | j + 2, h1, h2 => exact y3 j u a (by simpa using h1) (by simpa using h2)
  obtain ⟨A1, c1, rfl, u1, u2⟩ := nodesz_form he
  obtain ⟨A2, c2, rfl, u3, u4⟩ := nodesz_form hf
  unfold maxLen at u2 u4
  have HEL := Lib.hid hel
  obtain ⟨M, hM⟩ : ∃ M, itemM i = M := ⟨_, rfl⟩
  have HM : Hid (firstX ((i.e :: i.f :: i.args).drop 0) = M) := Lib.hid hM
  rw [hM]
  obtain ⟨L, hL⟩ : ∃ L, i.e :: i.f :: i.args = L := ⟨_, rfl⟩
  have hLn : L.length = 2 + i.args.length := by rw [← hL]; simp; omega
  rw [hL] at HM HEL
  have HL := Lib.hid hL
  obtain ⟨m1, hm1⟩ : ∃ n, i.e.length = n := ⟨_, rfl⟩
  obtain ⟨m2, hm2⟩ : ∃ n, i.f.length = n := ⟨_, rfl⟩
  obtain ⟨n, hnn⟩ : ∃ n, i.args.length = n := ⟨_, rfl⟩
  rw [hm1, hm2] at HEL ⊢
  rw [hnn] at hLn y1 hn ⊢
  obtain ⟨w1, hw1⟩ : ∃ W, w.alloc (.cells #[.int .i64 i.kind, .string (str i.name), .int .i64 i.ty, .slice A1 m1 c1, .slice A2 m2 c2, .slice A3 n c3] 62) = W := ⟨_, rfl⟩
  have hb1 : Below w.heap.size w w1 := hw1 ▸ below_new w _
  have hX : w1.heap[w.heap.size]? = some (.cells #[.int .i64 i.kind, .string (str i.name), .int .i64 i.ty, .slice A1 m1 c1, .slice A2 m2 c2, .slice A3 n c3] 62 (0, 0)) := hw1 ▸ heap_alloc_new w _
  have x3 : w1.cell? ⟨w.heap.size, 3, none⟩ = some (.slice A1 m1 c1) := (cell_at hX 3).trans rfl
  have x4 : w1.cell? ⟨w.heap.size, 4, none⟩ = some (.slice A2 m2 c2) := (cell_at hX 4).trans rfl
  have lx := lt_of_block hX
  have hX2 : (w1.alloc (.cells #[.slice A1 m1 c1, .slice A2 m2 c2] 23)).heap[w.heap.size]? = some (.cells #[.int .i64 i.kind, .string (str i.name), .int .i64 i.ty, .slice A1 m1 c1, .slice A2 m2 c2, .slice A3 n c3] 62 (0, 0)) := (Below.heap_alloc _ _ _ lx).trans hX
  have HB1 := Lib.hid hb1
  have HB2 : Hid (Below w.heap.size w (w1.alloc (.cells #[.slice A1 m1 c1, .slice A2 m2 c2] 23))) := Lib.hid (hb1.alloc hb1.size _)
  have HOWN := Lib.hid (own_two (w := w1) (.slice A1 m1 c1) (.slice A2 m2 c2))
  have Y5 : Hid (∀ ad, A3 = some ad → ∀ (j : Nat) (u : Value), us[j]? = some u → (w1.alloc (.cells #[.slice A1 m1 c1, .slice A2 m2 c2] 23)).cell? (ad.add j) = some u) := Lib.hid (fun ad had j u hu => by
    obtain ⟨h1, h2⟩ := y5 ad had j u hu
    rw [← h1]
    exact HB2.out.cell (by unfold Addr.add; split <;> exact h2))
  have Y4 := Lib.hid y4
  have hs1 := hb1.size
  clear he hf ha hb1 hX y3 y5 y4 hel hM hL hm1 hm2 hnn
  cases A3 with
  | none =>
    obtain ⟨rfl, hnil⟩ := y0 rfl
    have hus : us = [] := by
      apply List.length_eq_zero_iff.1
      rw [y1]
      have := congrArg List.length HL.out
      rw [hnil] at this
      simp at this
      omega
    subst hus
    have hn0 : n = 0 := by simpa using y1.symm
    subst hn0
    simp only [List.append_nil, Nat.add_zero] at HEL hLn
    have hown := HOWN.out
    obtain ⟨w2, hw2⟩ : ∃ W, w1.alloc (.cells #[.slice A1 m1 c1, .slice A2 m2 c2] 23) = W := ⟨_, rfl⟩
    rw [hw2] at hown HB2 HOWN hX2
    have x5 : w2.cell? ⟨w.heap.size, 5, none⟩ = some (.slice none 0 0) := (cell_at hX2 5).trans rfl
    have HOWN2 := Lib.hid hown
    have hg := (hown.lt w1.heap.size rfl).2
    have hb2 := HB2.out
    have hs2 := hb2.size
    have HS := Lib.hid hb2
    clear hown hX2 y0 hb2
    go_enter Try.func51, Try.ntmps51
    go_wp2_with (at_builtin; refine wpList_append_own_none rfl (.tmp 10) (.tmp 12) 38 rfl w1.heap.size 23 i0 1 Try.underlying38 hi _ 2 _ rfl HOWN2.out rfl ?_)
    go_wp2
    go_loopw [15] (fun c wr => ∃ j : Nat, j ≤ 2 ∧ c = .int .i64 j ∧ Below w2.heap.size w2 wr ∧ firstX (L.drop j) = M) (fun c _ => 2 - (intOf c).toNat)
    case atStart => exact ⟨0, Nat.zero_le _, rfl, Below.refl _ _, HM.out⟩
    case round =>
      obtain ⟨j, hj, rfl, hb, hm⟩ := hrel
      have HB := Lib.hid hb
      have HMM := Lib.hid hm
      have hsr := hb.size
      clear hb hm
      by_cases hlt : j < 2
      · obtain ⟨a, hja⟩ : ∃ q, L[j]? = some q := ⟨_, List.getElem?_eq_getElem (by omega)⟩
        have hcell0 := HOWN2.out.cellAt j (by omega)
        have hlen2 := HOWN2.out.1
        obtain ⟨u, hu⟩ : ∃ u, ([.slice A1 m1 c1, .slice A2 m2 c2] : List Value)[j]? = some u := ⟨_, List.getElem?_eq_getElem (by omega)⟩
        rw [hu] at hcell0
        have hz := (HEL.out j u a hu hja).below HS.out
        obtain ⟨A5, c5, rfl, v1, v2⟩ := nodesz_form hz
        unfold maxLen at v2
        have hc : wr.cell? ⟨w1.heap.size, j, none⟩ = some (.slice A5 a.length c5) := (HB.out.cell (p := ⟨w1.heap.size, j, none⟩) hg).trans hcell0
        have hgr : w1.heap.size < wr.heap.size := by omega
        have HD := Lib.hid (firstX_drop hja)
        have HC := Lib.hid (begun_any _ a wr (hz.below HB.out).1)
        obtain ⟨z, hzz⟩ : ∃ z, begunM a = z := ⟨_, rfl⟩
        have HDD : Hid (M = if a = [] then firstX (L.drop (j + 1)) else if z ≠ 0 then z else firstX (L.drop (j + 1))) := Lib.hid (by rw [← HMM.out, HD.out, hzz])
        rw [hzz] at HC
        clear hcell0 hlen2 hu hja hzz hz
        by_cases ha0 : a = []
        · have HN : Hid (firstX (L.drop (j + 1)) = M) := Lib.hid (by rw [HDD.out, if_pos ha0])
          have ha1 : a.length = 0 := by rw [ha0]; rfl
          rw [ha1] at hc
          clear HC
          go_wp2
          refine ⟨⟨j + 1, by omega, by go_num, HB.out, HN.out⟩, by simp [intOf]; omega⟩
        · have ha1 : a.length ≠ 0 := fun h => ha0 (List.length_eq_zero_iff.1 h)
          have hd : ((a.length : Int) == 0) = false := by simpa using ha0
          have hd2 : ((a.length : Int) = 0) = False := by simpa using ha0
          go_wp2_with fail
          refine HC.out.mono ?_
          rintro r w3 ⟨rfl, hb3⟩
          have HB4 := Lib.hid (HB.out.trans (hb3.mono hsr))
          clear hb3
          by_cases hz0 : z = 0
          · subst hz0
            have HN : Hid (firstX (L.drop (j + 1)) = M) := Lib.hid (by rw [HDD.out, if_neg ha0, if_neg (by simp)])
            go_wp2
            refine ⟨⟨j + 1, by omega, by go_num, HB4.out, HN.out⟩, by simp [intOf]; omega⟩
          · have hzd : (z != 0) = true := by simpa using hz0
            have HN : Hid (z = M) := Lib.hid (by rw [HDD.out, if_neg ha0, if_pos hz0])
            go_wp2
            go_ret
            exact err_of HN.out (HS.out.trans (HB4.out.mono hs2))
      · have hjl : j = L.length := by omega
        have HN : Hid (0 = M) := Lib.hid (by rw [← HMM.out, hjl]; exact (firstX_end L).symm)
        go_wp2
        go_ret
        exact err_of HN.out (HS.out.trans (HB.out.mono hs2))
  | some ad =>
    have x5 : (w1.alloc (.cells #[.slice A1 m1 c1, .slice A2 m2 c2] 23)).cell? ⟨w.heap.size, 5, none⟩ = some (.slice (some ad) n c3) := (cell_at hX2 5).trans rfl
    clear hX2 y0
    go_enter Try.func51, Try.ntmps51
    go_wp2_with (at_builtin; refine wpList_append_own _ rfl (.tmp 10) (.tmp 12) 38 rfl w1.heap.size 23 i0 _ 1 24 Try.underlying38 hi hz0 hz1 hz2 rfl (by decide) _ 2 _ rfl HOWN.out ad n c3 us rfl ?a1 ?b1 ?c1 ?d1 ?e1 ?f1 ?_)
    case a1 => simpa using y1
    case b1 => exact Y5.out ad rfl
    case c1 => exact Y4.out
    case d1 => unfold maxLen; omega
    case e1 => omega
    case f1 => simp
    intro v2 w2 hown2 hg2 _
    have hb2 : Below w.heap.size w w2 := HB2.out.trans (grown_below (HB2.out.size) hg2 (fun k hk => by have e : some w1.heap.size = some k := hk; injection e with e; omega))
    obtain ⟨hl2, h0 | ⟨g, cap, cur, rfl, hbg, hh, q1, q2, q3, q4⟩⟩ := hown2
    · exfalso; omega
    have HOWN2 : Hid (w2.ownsRow w1.heap.size 23 1 (.slice (some ⟨g, 0, none⟩) (2 + n) cap) (2 + n) ([.slice A1 m1 c1, .slice A2 m2 c2] ++ us)) := Lib.hid ⟨hl2, .inr ⟨g, cap, cur, rfl, hbg, hh, q1, q2, q3, q4⟩⟩
    have hg := lt_of_block hh
    unfold maxLen at q2
    have hs2 := hb2.size
    have HS := Lib.hid hb2
    clear hl2 hh q3 q4 hb2 hg2
    go_wp2
    go_loopw [15] (fun c wr => ∃ j : Nat, j ≤ (2 + n) ∧ c = .int .i64 j ∧ Below w2.heap.size w2 wr ∧ firstX (L.drop j) = M) (fun c _ => (2 + n) - (intOf c).toNat)
    case atStart => exact ⟨0, Nat.zero_le _, rfl, Below.refl _ _, HM.out⟩
    case round =>
      obtain ⟨j, hj, rfl, hb, hm⟩ := hrel
      have HB := Lib.hid hb
      have HMM := Lib.hid hm
      have hsr := hb.size
      clear hb hm
      by_cases hlt : j < (2 + n)
      · obtain ⟨a, hja⟩ : ∃ q, L[j]? = some q := ⟨_, List.getElem?_eq_getElem (by omega)⟩
        have hcell0 := HOWN2.out.cellAt j (by omega)
        have hlen2 := HOWN2.out.1
        obtain ⟨u, hu⟩ : ∃ u, ([.slice A1 m1 c1, .slice A2 m2 c2] ++ us : List Value)[j]? = some u := ⟨_, List.getElem?_eq_getElem (by omega)⟩
        rw [hu] at hcell0
        have hz := (HEL.out j u a hu hja).below HS.out
        obtain ⟨A5, c5, rfl, v1, v2⟩ := nodesz_form hz
        unfold maxLen at v2
        have hc : wr.cell? ⟨g, j, none⟩ = some (.slice A5 a.length c5) := (HB.out.cell (p := ⟨g, j, none⟩) hg).trans hcell0
        have hgr : g < wr.heap.size := by omega
        have HD := Lib.hid (firstX_drop hja)
        have HC := Lib.hid (begun_any _ a wr (hz.below HB.out).1)
        obtain ⟨z, hzz⟩ : ∃ z, begunM a = z := ⟨_, rfl⟩
        have HDD : Hid (M = if a = [] then firstX (L.drop (j + 1)) else if z ≠ 0 then z else firstX (L.drop (j + 1))) := Lib.hid (by rw [← HMM.out, HD.out, hzz])
        rw [hzz] at HC
        clear hcell0 hlen2 hu hja hzz hz
        by_cases ha0 : a = []
        · have HN : Hid (firstX (L.drop (j + 1)) = M) := Lib.hid (by rw [HDD.out, if_pos ha0])
          have ha1 : a.length = 0 := by rw [ha0]; rfl
          rw [ha1] at hc
          clear HC
          go_wp2
          refine ⟨⟨j + 1, by omega, by go_num, HB.out, HN.out⟩, by simp [intOf]; omega⟩
        · have ha1 : a.length ≠ 0 := fun h => ha0 (List.length_eq_zero_iff.1 h)
          have hd : ((a.length : Int) == 0) = false := by simpa using ha0
          have hd2 : ((a.length : Int) = 0) = False := by simpa using ha0
          go_wp2_with fail
          refine HC.out.mono ?_
          rintro r w3 ⟨rfl, hb3⟩
          have HB4 := Lib.hid (HB.out.trans (hb3.mono hsr))
          clear hb3
          by_cases hz0 : z = 0
          · subst hz0
            have HN : Hid (firstX (L.drop (j + 1)) = M) := Lib.hid (by rw [HDD.out, if_neg ha0, if_neg (by simp)])
            go_wp2
            refine ⟨⟨j + 1, by omega, by go_num, HB4.out, HN.out⟩, by simp [intOf]; omega⟩
          · have hzd : (z != 0) = true := by simpa using hz0
            have HN : Hid (z = M) := Lib.hid (by rw [HDD.out, if_neg ha0, if_pos hz0])
            go_wp2
            go_ret
            exact err_of HN.out (HS.out.trans (HB4.out.mono hs2))
      · have hjl : j = L.length := by omega
        have HN : Hid (0 = M) := Lib.hid (by rw [← HMM.out, hjl]; exact (firstX_end L).symm)
        go_wp2
        go_ret
        exact err_of HN.out (HS.out.trans (HB.out.mono hs2))
end Go.Proofs.Ytndmhbocfmnhgaa.In

/- Layer inits: contracts of unit and Check of the program, of any program that is an argument. Conditions: what is checked is read as a program's units; no item has more than a million arguments. -/
namespace Go.Proofs.Ytndmhbocfmnhgaa.In
open Go.ChangeShapes Go.WideShapes Go.ChangeAt Go.RowKit
open Go.Proofs.Ytndmhbocfmnhgaa.Ex Go.Proofs.Ytndmhbocfmnhgaa.Pg Go.Proofs.Ytndmhbocfmnhgaa.Op
open Go.Proofs.Ytndmhbocfmnhgaa.Tr (str ret_bool ret_int Bytes Nd Nodes)
set_option linter.unusedVariables false
set_option linter.unusedSimpArgs false

theorem if_two (z a b : Int) : (if (if z ≠ 0 then z else a) ≠ 0 then (if z ≠ 0 then z else a) else b) = if z ≠ 0 then z else (if a ≠ 0 then a else b) := by by_cases h : z = 0 <;> simp [h]
theorem firstI_end (l : List Itm) : firstI (l.drop l.length) = 0 := by rw [List.drop_length]; rfl
theorem slice_of {α : Type} {K : Nat} {R : World → α → List Value → Prop} {w : World} {l : List α} {v : Value} (h : RowN K R w l v) : ∃ A n c, v = .slice A n c := by
  obtain ⟨A, c, h, -⟩ := rown_form h
  exact ⟨_, _, _, h⟩
set_option maxRecDepth 100000 in
set_option maxHeartbeats 8000000 in
theorem unit_any (u : Unt) (iv vv qv lv : Value) (w : World) (hq : RowN 2 EqnN w u.eqs qv) (hl : RowN 6 ItmN w u.items lv) (hi0 : ∀ x ∈ u.items, x.args.length ≤ 1000000) (hiv : ∃ A n c, iv = .slice A n c) (hvv : ∃ A n c, vv = .slice A n c) :
    Calls Try.prog 26 #[.agg #[.bool u.contract, .string (str u.name), iv, .string (str u.out.name), .int .i64 u.out.ty, vv, qv, lv]] w (ErrPost w (unitM u)) := by
  obtain ⟨A1, n1, c1, rfl⟩ := hiv
  obtain ⟨A2, n2, c2, rfl⟩ := hvv
  obtain ⟨M, hM⟩ : ∃ M, unitM u = M := ⟨_, rfl⟩
  rw [hM]
  obtain ⟨es, hes⟩ : ∃ es, u.eqs = es := ⟨_, rfl⟩
  obtain ⟨is, his⟩ : ∃ is, u.items = is := ⟨_, rfl⟩
  have HM : Hid ((if firstE ((es.map (·.e)).drop 0) ≠ 0 then firstE ((es.map (·.e)).drop 0) else firstI is) = M) := Lib.hid (by rw [← hes, ← his]; exact hM)
  rw [hes] at hq
  rw [his] at hl hi0
  obtain ⟨A4, c4, hlv, l1, l2, -⟩ := rown_form hl
  have HL : Hid (RowN 6 ItmN w is (.slice A4 is.length c4)) := Lib.hid (hlv ▸ hl)
  subst hlv
  unfold maxLen at l2
  have HI0 := Lib.hid hi0
  obtain ⟨A3, c3, hqv, q1, q2, -⟩ := rown_form hq
  have HQ : Hid (RowN 2 EqnN w es (.slice A3 es.length c3)) := Lib.hid (hqv ▸ hq)
  subst hqv
  unfold maxLen at q2
  clear hM hi0 hq hl hes his
  obtain ⟨w1, hw1⟩ : ∃ W, w.alloc (.cells #[.bool u.contract, .string (str u.name), .slice A1 n1 c1, .string (str u.out.name), .int .i64 u.out.ty, .slice A2 n2 c2, .slice A3 es.length c3, .slice A4 is.length c4] 58) = W := ⟨_, rfl⟩
  have hb1 : Below w.heap.size w w1 := hw1 ▸ below_new w _
  have hX : w1.heap[w.heap.size]? = some (.cells #[.bool u.contract, .string (str u.name), .slice A1 n1 c1, .string (str u.out.name), .int .i64 u.out.ty, .slice A2 n2 c2, .slice A3 es.length c3, .slice A4 is.length c4] 58 (0, 0)) := hw1 ▸ heap_alloc_new w _
  have HX := Lib.hid hX
  have x6 : w1.cell? ⟨w.heap.size, 6, none⟩ = some (.slice A3 es.length c3) := (cell_at hX 6).trans rfl
  have lx := lt_of_block hX
  have HB1 := Lib.hid hb1
  have HROW : Hid (∀ wr, Below w1.heap.size w1 wr → RowN 2 EqnN wr es (.slice A3 es.length c3)) := Lib.hid (fun wr hb => HQ.out.below (hb1.trans (hb.mono hb1.size)) (EqnN.below (hb1.trans (hb.mono hb1.size))))
  have HROWI : Hid (∀ wr, Below w1.heap.size w1 wr → RowN 6 ItmN wr is (.slice A4 is.length c4)) := Lib.hid (fun wr hb => HL.out.below (hb1.trans (hb.mono hb1.size)) (ItmN.below (hb1.trans (hb.mono hb1.size))))
  have hs1 := hb1.size
  clear hb1 hX
  go_enter Try.func26, Try.ntmps26
  go_wp2
  go_loopw [12] (fun c wr => ∃ j : Nat, j ≤ es.length ∧ c = .int .i64 j ∧ Below w1.heap.size w1 wr ∧ (if firstE ((es.map (·.e)).drop j) ≠ 0 then firstE ((es.map (·.e)).drop j) else firstI is) = M) (fun c _ => es.length - (intOf c).toNat)
  case atStart => exact ⟨0, Nat.zero_le _, rfl, Below.refl _ _, HM.out⟩
  case round =>
    obtain ⟨j, hj, rfl, hb, hm⟩ := hrel
    have HB := Lib.hid hb
    have HMM := Lib.hid hm
    have hsr := hb.size
    clear hb hm
    by_cases hlt : j < es.length
    · obtain ⟨q, he⟩ : ∃ q, es[j]? = some q := ⟨_, List.getElem?_eq_getElem hlt⟩
      obtain ⟨g, o, cc, x, hov, hg, ⟨ev, rfl, hp, -⟩, -, hcell⟩ := rown_at (HROW.out wr HB.out) he
      simp only [Value.slice.injEq] at hov
      obtain ⟨rfl, -, rfl⟩ := hov
      have hc0 : wr.cell? ⟨g, o + j * 2, none⟩ = some (.string (str q.name)) := hcell 0 (by omega)
      have hc1 : wr.cell? ⟨g, o + j * 2 + 1, none⟩ = some ev := hcell 1 (by omega)
      have hp2 := hp.below (below_new wr (.cells #[.string (str q.name), ev] 60))
      obtain ⟨A5, c5, hev, v1, v2⟩ := nodesz_form hp
      subst hev
      unfold maxLen at v2
      have hem : (es.map (·.e))[j]? = some q.e := by rw [List.getElem?_map, he]; rfl
      have HD := Lib.hid (firstE_drop hem)
      have HC := Lib.hid (begun_any _ q.e _ hp2.1)
      obtain ⟨z, hz⟩ : ∃ z, begunM q.e = z := ⟨_, rfl⟩
      have HDD : Hid (M = if z ≠ 0 then z else (if firstE ((es.map (·.e)).drop (j + 1)) ≠ 0 then firstE ((es.map (·.e)).drop (j + 1)) else firstI is)) := Lib.hid (by
        rw [← HMM.out, HD.out, hz]; exact if_two _ _ _)
      rw [hz] at HC
      clear hcell he hem hz hp2
      go_wp2_with fail
      refine HC.out.mono ?_
      rintro r w3 ⟨rfl, hb3⟩
      have HB4 := Lib.hid ((HB.out.alloc hsr _).trans (hb3.mono (by simp; omega)))
      clear hb3
      by_cases hz0 : z = 0
      · subst hz0
        have HN : Hid ((if firstE ((es.map (·.e)).drop (j + 1)) ≠ 0 then firstE ((es.map (·.e)).drop (j + 1)) else firstI is) = M) := Lib.hid (by rw [HDD.out]; exact (if_neg (by simp)).symm)
        go_wp2
        refine ⟨⟨j + 1, by omega, by go_num, HB4.out, HN.out⟩, by simp [intOf]; omega⟩
      · have hzd : (z != 0) = true := by simpa using hz0
        have HN : Hid (z = M) := Lib.hid (by rw [HDD.out, if_pos hz0])
        go_wp2
        go_ret
        exact err_of HN.out (HB1.out.trans (HB4.out.mono hs1))
    · have hjl : j = es.length := by omega
      subst hjl
      have HN : Hid (firstI (is.drop 0) = M) := Lib.hid (by rw [← HMM.out]; have := firstE_end (es.map (·.e)); rw [List.length_map] at this; rw [this]; rfl)
      have x7 : wr.cell? ⟨w.heap.size, 7, none⟩ = some (.slice A4 is.length c4) := (HB.out.cell (p := ⟨w.heap.size, 7, none⟩) lx).trans ((cell_at HX.out 7).trans rfl)
      have lxr : w.heap.size < wr.heap.size := by omega
      go_wp2
      go_loopw [26] (fun c wq => ∃ k : Nat, k ≤ is.length ∧ c = .int .i64 k ∧ Below w1.heap.size w1 wq ∧ firstI (is.drop k) = M) (fun c _ => is.length - (intOf c).toNat)
      case atStart => exact ⟨0, Nat.zero_le _, rfl, HB.out, HN.out⟩
      case round =>
        obtain ⟨k, hk, rfl, hbq, hmk⟩ := hrel
        have HBQ := Lib.hid hbq
        have HMK := Lib.hid hmk
        have hsq := hbq.size
        clear hbq hmk x7 HN HMM
        by_cases hlt2 : k < is.length
        · obtain ⟨t, hit⟩ : ∃ q, is[k]? = some q := ⟨_, List.getElem?_eq_getElem hlt2⟩
          obtain ⟨g, o, cc, x, hov, hg, ⟨ev, fv, av, rfl, hp1, hp2, hp3, -⟩, -, hcell⟩ := rown_at (HROWI.out wr HBQ.out) hit
          simp only [Value.slice.injEq] at hov
          obtain ⟨rfl, -, rfl⟩ := hov
          obtain ⟨A5, n5, c5, rfl⟩ : ∃ A n c, ev = .slice A n c := by obtain ⟨A, c, h, -⟩ := nodesz_form hp1; exact ⟨_, _, _, h⟩
          obtain ⟨A6, n6, c6, rfl⟩ : ∃ A n c, fv = .slice A n c := by obtain ⟨A, c, h, -⟩ := nodesz_form hp2; exact ⟨_, _, _, h⟩
          obtain ⟨A7, n7, c7, rfl⟩ : ∃ A n c, av = .slice A n c := by obtain ⟨A, c, h, -⟩ := rown_form hp3; exact ⟨_, _, _, h⟩
          have e0 : wr.cell? ⟨g, o + k * 6, none⟩ = some (.int .i64 t.kind) := hcell 0 (by omega)
          have e1 : wr.cell? ⟨g, o + k * 6 + 1, none⟩ = some (.string (str t.name)) := hcell 1 (by omega)
          have e2 : wr.cell? ⟨g, o + k * 6 + 2, none⟩ = some (.int .i64 t.ty) := hcell 2 (by omega)
          have e3 : wr.cell? ⟨g, o + k * 6 + 3, none⟩ = some (.slice A5 n5 c5) := hcell 3 (by omega)
          have e4 : wr.cell? ⟨g, o + k * 6 + 4, none⟩ = some (.slice A6 n6 c6) := hcell 4 (by omega)
          have e5 : wr.cell? ⟨g, o + k * 6 + 5, none⟩ = some (.slice A7 n7 c7) := hcell 5 (by omega)
          obtain ⟨w2, hw2⟩ : ∃ W, wr.alloc (.cells #[.int .i64 t.kind, .string (str t.name), .int .i64 t.ty, .slice A5 n5 c5, .slice A6 n6 c6, .slice A7 n7 c7] 62) = W := ⟨_, rfl⟩
          have hb2 : Below wr.heap.size wr w2 := hw2 ▸ below_new wr _
          have HC := Lib.hid (item_any t (.slice A5 n5 c5) (.slice A6 n6 c6) (.slice A7 n7 c7) w2 (hp1.below hb2) (hp2.below hb2) (hp3.below hb2 (ExpN.below hb2)) (HI0.out t (List.mem_of_getElem? hit)))
          have HB2 := Lib.hid (HBQ.out.trans (hb2.mono hsq))
          have HD := Lib.hid (firstI_drop hit)
          have hs2 := hb2.size
          obtain ⟨z, hz⟩ : ∃ z, itemM t = z := ⟨_, rfl⟩
          have HDD : Hid (M = if z ≠ 0 then z else firstI (is.drop (k + 1))) := Lib.hid (by rw [← HMK.out, HD.out, hz])
          rw [hz] at HC
          have HW2 := Lib.hid hw2
          clear hcell hp1 hp2 hp3 hit hz hb2 hw2
          go_wp2_with fail
          rw [HW2.out]
          refine HC.out.mono ?_
          rintro r w3 ⟨rfl, hb3⟩
          have HB4 := Lib.hid (HB2.out.trans (hb3.mono (by omega)))
          clear hb3
          by_cases hz0 : z = 0
          · subst hz0
            have HN : Hid (firstI (is.drop (k + 1)) = M) := Lib.hid (by rw [HDD.out, if_neg (by simp)])
            go_wp2
            refine ⟨⟨k + 1, by omega, by go_num, HB4.out, HN.out⟩, by simp [intOf]; omega⟩
          · have hzd : (z != 0) = true := by simpa using hz0
            have HN : Hid (z = M) := Lib.hid (by rw [HDD.out, if_pos hz0])
            go_wp2
            go_ret
            exact err_of HN.out (HB1.out.trans (HB4.out.mono hs1))
        · have hkl : k = is.length := by omega
          subst hkl
          have HN : Hid (0 = M) := Lib.hid (by rw [← HMK.out]; exact (firstI_end is).symm)
          go_wp2
          go_ret
          exact err_of HN.out (HB1.out.trans (HBQ.out.mono hs1))
set_option maxRecDepth 100000 in
set_option maxHeartbeats 8000000 in
theorem check_any (us : List Unt) (uv : Value) (m b : Bytes) (w : World) (hu : RowN 8 UntN w us uv) (hi0 : ∀ u ∈ us, ∀ x ∈ u.items, x.args.length ≤ 1000000) :
    Calls Try.prog 13 #[.agg #[uv, .string (str m), .string (str b)]] w (fun e w' => e = .returned (.agg #[.int .i64 (checkF 0 us).1, .int .i64 (checkF 0 us).2]) ∧ Below w.heap.size w w') := by
  obtain ⟨R, hR⟩ : ∃ R, checkF 0 us = R := ⟨_, rfl⟩
  have HR : Hid (checkF 0 (us.drop 0) = R) := Lib.hid hR
  rw [hR]
  obtain ⟨A3, c3, hqv, q1, q2, -⟩ := rown_form hu
  have HU : Hid (RowN 8 UntN w us (.slice A3 us.length c3)) := Lib.hid (hqv ▸ hu)
  subst hqv
  unfold maxLen at q2
  have HI := Lib.hid hi0
  clear hR hu hi0
  obtain ⟨w1, hw1⟩ : ∃ W, (w.alloc (.cells #[.slice A3 us.length c3, .string (str m), .string (str b)] 31)).alloc (.cells #[.int .i64 0, .int .i64 0] 34) = W := ⟨_, rfl⟩
  have hb1 : Below w.heap.size w w1 := hw1 ▸ (below_new w _).alloc (below_new w _).size _
  have hX : w1.heap[w.heap.size]? = some (.cells #[.slice A3 us.length c3, .string (str m), .string (str b)] 31 (0, 0)) := by rw [← hw1, Below.heap_alloc _ _ _ (by simp)]; exact heap_alloc_new w _
  have hZ : w1.heap[w.heap.size + 1]? = some (.cells #[.int .i64 0, .int .i64 0] 34 (0, 0)) := hw1 ▸ new_blk (by simp)
  have x0 : w1.cell? ⟨w.heap.size, 0, none⟩ = some (.slice A3 us.length c3) := (cell_at hX 0).trans rfl
  have lx := lt_of_block hX
  have lz := lt_of_block hZ
  have HZ := Lib.hid hZ
  have HB1 := Lib.hid hb1
  have HROW : Hid (∀ wr, Below w1.heap.size w1 wr → RowN 8 UntN wr us (.slice A3 us.length c3)) := Lib.hid (fun wr hb => HU.out.below (hb1.trans (hb.mono hb1.size)) (UntN.below (hb1.trans (hb.mono hb1.size))))
  have hs1 := hb1.size
  clear hb1 hX hZ
  have HEND : Hid (∀ (wr : World) (p q : Int), Below w1.heap.size w1 wr → (p, q) = R → ∀ e, e = Ending.returned (.agg #[.int .i64 p, .int .i64 q]) → e = .returned (.agg #[.int .i64 R.1, .int .i64 R.2]) ∧ Below w.heap.size w ((wr.setCell ⟨w.heap.size + 1, 0, none⟩ (.int .i64 p)).setCell ⟨w.heap.size + 1, 1, none⟩ (.int .i64 q))) := Lib.hid (fun wr p q hb h e he => by
    subst h; subst he
    exact ⟨rfl, ((HB1.out.trans (hb.mono HB1.out.size)).setCell (by simp) _).setCell (by simp) _⟩)
  go_enter Try.func13, Try.ntmps13
  go_wp2
  go_loopw [9] (fun c wr => ∃ j : Nat, j ≤ us.length ∧ c = .int .i64 j ∧ Below w1.heap.size w1 wr ∧ checkF j (us.drop j) = R) (fun c _ => us.length - (intOf c).toNat)
  case atStart => exact ⟨0, Nat.zero_le _, rfl, Below.refl _ _, HR.out⟩
  case round =>
    obtain ⟨j, hj, rfl, hb, hm⟩ := hrel
    have HB := Lib.hid hb
    have HMM := Lib.hid hm
    have hsr := hb.size
    clear hb hm
    by_cases hlt : j < us.length
    · obtain ⟨u, he⟩ : ∃ q, us[j]? = some q := ⟨_, List.getElem?_eq_getElem hlt⟩
      obtain ⟨g, o, cc, x, hov, hg, hux, -, hcell⟩ := rown_at (HROW.out wr HB.out) he
      obtain ⟨iv, vv, qv, lv, rfl, h1, h2, h3, h4, -⟩ := hux
      simp only [Value.slice.injEq] at hov
      obtain ⟨rfl, -, rfl⟩ := hov
      obtain ⟨A5, n5, c5, rfl⟩ := slice_of h1
      obtain ⟨A6, n6, c6, rfl⟩ := slice_of h2
      obtain ⟨A7, n7, c7, rfl⟩ := slice_of h3
      obtain ⟨A8, n8, c8, rfl⟩ := slice_of h4
      have e0 : wr.cell? ⟨g, o + j * 8, none⟩ = some (.bool u.contract) := hcell 0 (by omega)
      have e1 : wr.cell? ⟨g, o + j * 8 + 1, none⟩ = some (.string (str u.name)) := hcell 1 (by omega)
      have e2 : wr.cell? ⟨g, o + j * 8 + 2, none⟩ = some (.slice A5 n5 c5) := hcell 2 (by omega)
      have e3 : wr.cell? ⟨g, o + j * 8 + 3, none⟩ = some (.string (str u.out.name)) := hcell 3 (by omega)
      have e4 : wr.cell? ⟨g, o + j * 8 + 4, none⟩ = some (.int .i64 u.out.ty) := hcell 4 (by omega)
      have e5 : wr.cell? ⟨g, o + j * 8 + 5, none⟩ = some (.slice A6 n6 c6) := hcell 5 (by omega)
      have e6 : wr.cell? ⟨g, o + j * 8 + 6, none⟩ = some (.slice A7 n7 c7) := hcell 6 (by omega)
      have e7 : wr.cell? ⟨g, o + j * 8 + 7, none⟩ = some (.slice A8 n8 c8) := hcell 7 (by omega)
      obtain ⟨w2, hw2⟩ : ∃ W, wr.alloc (.cells #[.bool u.contract, .string (str u.name), .slice A5 n5 c5, .string (str u.out.name), .int .i64 u.out.ty, .slice A6 n6 c6, .slice A7 n7 c7, .slice A8 n8 c8] 58) = W := ⟨_, rfl⟩
      have hb2 : Below wr.heap.size wr w2 := hw2 ▸ below_new wr _
      have HC := Lib.hid (unit_any u (.slice A5 n5 c5) (.slice A6 n6 c6) (.slice A7 n7 c7) (.slice A8 n8 c8) w2 (h3.below hb2 (EqnN.below hb2)) (h4.below hb2 (ItmN.below hb2)) (HI.out u (List.mem_of_getElem? he)) ⟨_, _, _, rfl⟩ ⟨_, _, _, rfl⟩)
      have HB2 := Lib.hid (HB.out.trans (hb2.mono hsr))
      have HD := Lib.hid (checkF_drop he)
      have hs2 := hb2.size
      obtain ⟨z, hz⟩ : ∃ z, unitM u = z := ⟨_, rfl⟩
      have HDD : Hid (R = if z ≠ 0 then (z, (j : Int)) else checkF (j + 1) (us.drop (j + 1))) := Lib.hid (by rw [← HMM.out, HD.out, hz])
      rw [hz] at HC
      have HW2 := Lib.hid hw2
      clear hcell h1 h2 h3 h4 he hz hb2 hw2
      go_wp2_with fail
      rw [HW2.out]
      refine HC.out.mono ?_
      rintro r w3 ⟨rfl, hb3⟩
      have HB4 := Lib.hid (HB2.out.trans (hb3.mono (by omega)))
      have hs3 := hb3.size
      clear hb3
      by_cases hz0 : z = 0
      · subst hz0
        have HN : Hid (checkF (j + 1) (us.drop (j + 1)) = R) := Lib.hid (by rw [HDD.out, if_neg (by simp)])
        go_wp2
        refine ⟨⟨j + 1, by omega, by go_num, HB4.out, HN.out⟩, by simp [intOf]; omega⟩
      · have hzd : (z != 0) = true := by simpa using hz0
        have HN : Hid ((z, (j : Int)) = R) := Lib.hid (by rw [HDD.out, if_pos hz0])
        have hZ3 := (HB4.out.block _ lz).trans HZ.out
        have p0 : w3.cell? ⟨w.heap.size + 1, 0, none⟩ = some (.int .i64 0) := (cell_at hZ3 0).trans rfl
        have p1 : w3.cell? ⟨w.heap.size + 1, 1, none⟩ = some (.int .i64 0) := (cell_at hZ3 1).trans rfl
        have f0 : w3.frozen? ⟨w.heap.size + 1, 0, none⟩ = false := free_at hZ3 0
        have f1 : w3.frozen? ⟨w.heap.size + 1, 1, none⟩ = false := free_at hZ3 1
        have HZ3 := Lib.hid hZ3
        have lz3 := lt_of_block hZ3
        clear hZ3
        go_wp2
        have Z := Go.Proofs.Ytndmhbocfmnhgaa.Rp.blk2 HZ3.out (.int .i64 z) (.int .i64 (j : Int))
        have z0 := (cell_at Z 0).trans (show _ = some (.int .i64 z) from rfl)
        have z1 := (cell_at Z 1).trans (show _ = some (.int .i64 (j : Int)) from rfl)
        clear p0 p1 f0 f1
        exact bodyPost_ret (v := .agg #[.int .i64 z, .int .i64 (j : Int)]) (by simp [results, Try.results13, go_sem, z0, z1]) rfl (HEND.out w3 z j HB4.out HN.out _ rfl)
    · have hjl : j = us.length := by omega
      subst hjl
      have HN : Hid (((0 : Int), (0 : Int)) = R) := Lib.hid (by rw [← HMM.out, List.drop_length]; rfl)
      have hZ3 := (HB.out.block _ lz).trans HZ.out
      have p0 : wr.cell? ⟨w.heap.size + 1, 0, none⟩ = some (.int .i64 0) := (cell_at hZ3 0).trans rfl
      have p1 : wr.cell? ⟨w.heap.size + 1, 1, none⟩ = some (.int .i64 0) := (cell_at hZ3 1).trans rfl
      have f0 : wr.frozen? ⟨w.heap.size + 1, 0, none⟩ = false := free_at hZ3 0
      have f1 : wr.frozen? ⟨w.heap.size + 1, 1, none⟩ = false := free_at hZ3 1
      have HZ3 := Lib.hid hZ3
      have lz3 := lt_of_block hZ3
      clear hZ3
      go_wp2
      have Z := Go.Proofs.Ytndmhbocfmnhgaa.Rp.blk2 HZ3.out (.int .i64 0) (.int .i64 0)
      have z0 := (cell_at Z 0).trans (show _ = some (.int .i64 0) from rfl)
      have z1 := (cell_at Z 1).trans (show _ = some (.int .i64 0) from rfl)
      clear p0 p1 f0 f1
      exact bodyPost_ret (v := .agg #[.int .i64 0, .int .i64 0]) (by simp [results, Try.results13, go_sem, z0, z1]) rfl (HEND.out wr 0 0 HB.out HN.out _ rfl)
end Go.Proofs.Ytndmhbocfmnhgaa.In

