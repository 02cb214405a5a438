/- A node is written, where its operands are. Conditions: a writer lies in memory. -/
import Derived.Test.YtobkcdkffcenbaaGreatDoorCb15
import Derived.Test.YtobkcdkffcenbaaGreatDoorCa07
import Derived.Test.YtobkcdkffcenbaaGreatDoorCa10
import Derived.Test.YtobkcdkffcenbaaGreatDoorCa01
import Derived.Deep.Slices
import Derived.ChangeArms
import Derived.SliceStrings
import Derived.Carry
import Derived.Test.YtobkcdkffcenbaaGreatDoorCb14
set_option linter.unusedVariables false
set_option linter.unusedSimpArgs false
namespace Go.Proofs.YtobkcdkffcenbaaGreatDoor.Sh
open Go.ChangeShapes Go.WideShapes Go.ChangeAt Go.RowKit
open Go.Proofs.YtobkcdkffcenbaaGreatDoor.Tr (str ret_bool ret_int Bytes Nd T Nodes May tree kidsM mkL mkT fitsB argsL unaryB binaryB ndCells)
end Go.Proofs.YtobkcdkffcenbaaGreatDoor.Sh
namespace Go.Proofs.YtobkcdkffcenbaaGreatDoor.Sh
open Go.Proofs.YtobkcdkffcenbaaGreatDoor.Tr Go.Proofs.YtobkcdkffcenbaaGreatDoor.Ex
end Go.Proofs.YtobkcdkffcenbaaGreatDoor.Sh
namespace Go.Proofs.YtobkcdkffcenbaaGreatDoor.Sh
open Go.Proofs.YtobkcdkffcenbaaGreatDoor.Tr Go.Proofs.YtobkcdkffcenbaaGreatDoor.Ex
def GoodK (l : List KT) : Prop := ∀ x ∈ l, Lx.Good x.1 x.2
theorem GoodK.app {a b : List KT} (ha : GoodK a) (hb : GoodK b) : GoodK (a ++ b) := fun x hx => (List.mem_append.1 hx).elim (ha x) (hb x)
theorem GoodK.cons {x : KT} {b : List KT} (ha : Lx.Good x.1 x.2) (hb : GoodK b) : GoodK (x :: b) := fun y hy => by
  rcases List.mem_cons.1 hy with rfl | hy
  · exact ha
  · exact hb y hy
end Go.Proofs.YtobkcdkffcenbaaGreatDoor.Sh
namespace Go.Proofs.YtobkcdkffcenbaaGreatDoor.Tr
open Go.RowKit
def T.put (f : Lab → Option T) : T → T
  | .l0 x => (f x).getD (.l0 x)
  | .l1 x p => .l1 x (p.put f)
  | .l2 x p q => .l2 x (p.put f) (q.put f)
  | .l3 x p q r => .l3 x (p.put f) (q.put f) (r.put f)
end Go.Proofs.YtobkcdkffcenbaaGreatDoor.Tr
namespace Go.Proofs.YtobkcdkffcenbaaGreatDoor.Tr
open Go.RowKit
def T.labs : T → List Lab
  | .l0 x => [x] | .l1 x p => p.labs ++ [x] | .l2 x p q => p.labs ++ q.labs ++ [x] | .l3 x p q r => p.labs ++ q.labs ++ r.labs ++ [x]
theorem mkT_labs (x : Lab) (l : List T) (h : l.length ≤ 3) : (mkT x l).labs = l.flatMap T.labs ++ [x] := by
  match l, h with
  | [], _ => rfl
  | [p], _ => simp [mkT, T.labs]
  | [p, q], _ => simp [mkT, T.labs]
  | [p, q, r], _ => simp [mkT, T.labs]
theorem tree_labs {e : List Nd} (h : Ahead e) : ∀ i, i < e.length → (tree e i).labs = (desc e i).map fun j => (e.getD j default).lab := by
  intro i
  induction i using Nat.strongRecOn with
  | ind i ih =>
    intro hi
    have hn := of_getD hi
    rw [tree_eq h hn, desc_eq h hn, mkT_labs _ _ (by rw [List.length_map]; exact kids_small _), List.map_append, List.map_flatMap, List.flatMap_map]
    congr 1
    rw [List.flatMap_def, List.flatMap_def]
    congr 1
    apply List.map_congr_left
    intro k hk
    have := h i _ hn k hk
    exact ih k.toNat (by omega) (by omega)
end Go.Proofs.YtobkcdkffcenbaaGreatDoor.Tr
namespace Go.Proofs.YtobkcdkffcenbaaGreatDoor.Sh
open Go.Proofs.YtobkcdkffcenbaaGreatDoor.Tr Go.Proofs.YtobkcdkffcenbaaGreatDoor.Ex
def nmB (s : Bytes) : Bool := (s == []) || Lx.nameB s
def nmR (r : Rd) : Prop := ∀ t ∈ r.l, t.kind = 1 → nmB t.text = true
theorem nmR.fail {r : Rd} (e : Int) (h : nmR r) : nmR (r.fail e) := by
  unfold Rd.fail
  split <;> (intro t ht; simp at ht)
theorem nmR.adv {r : Rd} (h : nmR r) : nmR r.adv := h
theorem nmR.need {r : Rd} (s : Bytes) (h : nmR r) : nmR (r.need s) := by
  unfold Rd.need; split
  · exact h.adv
  · exact h.fail 5
theorem nmR.cur {r : Rd} (h : nmR r) (hk : r.cur.kind = 1) : nmB r.cur.text = true := by
  have hl := kind_lt (r := r) (by omega)
  have e : r.l[r.next]? = some r.cur := by unfold Rd.cur; rw [List.getElem?_eq_getElem hl]; rfl
  exact h _ (List.mem_of_getElem? e) hk
end Go.Proofs.YtobkcdkffcenbaaGreatDoor.Sh
namespace Go.Proofs.YtobkcdkffcenbaaGreatDoor.Sh
open Go.Proofs.YtobkcdkffcenbaaGreatDoor.Tr Go.Proofs.YtobkcdkffcenbaaGreatDoor.Ex
def bal (l : Bytes) : Int := (l.count 40 : Int) - (l.count 41 : Int)
def Bal (l : Bytes) : Prop := (∀ k, 0 ≤ bal (l.take k)) ∧ bal l = 0
theorem bal_app (a b : Bytes) : bal (a ++ b) = bal a + bal b := by unfold bal; simp [List.count_append]; omega
theorem Bal.app {a b : Bytes} (ha : Bal a) (hb : Bal b) : Bal (a ++ b) := by
  refine ⟨fun k => ?_, by rw [bal_app, ha.2, hb.2]; rfl⟩
  rw [List.take_append, bal_app]
  have := ha.1 k; have := hb.1 (k - a.length); omega
theorem bal_plain {a : Bytes} (h : ∀ c ∈ a, c ≠ 40 ∧ c ≠ 41) : Bal a := by
  have key : ∀ l : Bytes, (∀ c ∈ l, c ≠ 40 ∧ c ≠ 41) → bal l = 0 := fun l hl => by
    unfold bal
    rw [List.count_eq_zero.2 (fun hm => (hl 40 hm).1 rfl), List.count_eq_zero.2 (fun hm => (hl 41 hm).2 rfl)]; rfl
  exact ⟨fun k => by rw [key _ (fun c hc => h c (List.mem_of_mem_take hc))]; exact Int.le_refl _, key a h⟩
def flatB (l : List KT) : Bytes := l.flatMap (fun x => x.2 ++ [32])
theorem flatB_cons (x : KT) (b : List KT) : flatB (x :: b) = (x.2 ++ [32]) ++ flatB b := by simp [flatB]
def plainK (x : KT) : Bool := x.2.all (fun c => c != 40 && c != 41)
theorem Bal.cons {x : KT} {l : List KT} (hx : plainK x = true) (h : Bal (flatB l)) : Bal (flatB (x :: l)) := by
  rw [flatB_cons]
  refine Bal.app (bal_plain fun c hc => ?_) h
  rcases List.mem_append.1 hc with h1 | h1
  · have := List.all_eq_true.1 hx c h1
    simp at this; exact this
  · simp at h1; subst h1; decide
end Go.Proofs.YtobkcdkffcenbaaGreatDoor.Sh
namespace Go.Proofs.YtobkcdkffcenbaaGreatDoor.Tr
open Go.ChangeShapes Go.WideShapes Go.ChangeAt Go.RowKit
def Strs (w : World) (v : Value) (l : List Bytes) : Prop :=
  ∃ A c, v = .slice A l.length c ∧ l.length ≤ c ∧ c ≤ maxLen ∧ ∀ i x, l[i]? = some x → ∃ g o, A = some ⟨g, o, none⟩ ∧ g < w.heap.size ∧ w.cell? ⟨g, o + i, none⟩ = some (.string (str x))
def strsOf (l : List Bytes) : List Value := l.map (fun s => .string (str s))
theorem Strs.of_own {w : World} {b : Nat} {v : Value} {l : List Bytes} (h : w.ownsRow b 9 1 v l.length (strsOf l)) : Strs w v l := by
  obtain ⟨hl, h0 | ⟨g, cap, cur, rfl, hb, hh, hnc, hcm, hcs, hct⟩⟩ := h
  · obtain ⟨rfl, h0⟩ := h0
    have : l = [] := List.length_eq_zero_iff.1 h0
    subst this
    exact ⟨none, 0, rfl, by simp, by unfold maxLen; omega, fun i t h => by simp at h⟩
  · have h : w.ownsRow b 9 1 (.slice (some ⟨g, 0, none⟩) l.length cap) l.length (strsOf l) := ⟨hl, .inr ⟨g, cap, cur, rfl, hb, hh, hnc, hcm, hcs, hct⟩⟩
    refine ⟨some ⟨g, 0, none⟩, cap, rfl, hnc, hcm, fun i x hi => ⟨g, 0, rfl, lt_of_block hh, ?_⟩⟩
    have hil : i < l.length := (List.getElem?_eq_some_iff.1 hi).1
    rw [Nat.zero_add, h.cellAt _ (by omega)]
    unfold strsOf
    rw [List.getElem?_map, hi]; rfl
theorem Strs.keep {w w' : World} {v : Value} {l : List Bytes} (h : Strs w v l) (hs : w.heap.size ≤ w'.heap.size) (hk : ∀ p : Addr, p.block < w.heap.size → w'.cell? p = w.cell? p) : Strs w' v l := by
  obtain ⟨A, c, rfl, h1, h2, h3⟩ := h
  refine ⟨A, c, rfl, h1, h2, fun i t hi => ?_⟩
  obtain ⟨g, o, hg, hlt, c0⟩ := h3 i t hi
  exact ⟨g, o, hg, by omega, (hk _ hlt).trans c0⟩
theorem Strs.below {w w' : World} {B : Nat} {v : Value} {l : List Bytes} (h : Strs w v l) (hb : Below B w w') (hB : w.heap.size ≤ B) : Strs w' v l :=
  h.keep hb.size fun p hp => hb.cell (by omega)
theorem Strs.take {w : World} {A : Option Addr} {k n c : Nat} {l : List Bytes} (h : Strs w (.slice A n c) l) (hk : k ≤ n) : Strs w (.slice A k c) (l.take k) := by
  obtain ⟨A', c', e, h1, h2, h3⟩ := h
  simp only [Value.slice.injEq] at e
  obtain ⟨rfl, rfl, rfl⟩ := e
  refine ⟨A, c, by rw [List.length_take, Nat.min_eq_left hk], by rw [List.length_take]; omega, h2, fun i x hi => ?_⟩
  rw [List.getElem?_take] at hi
  split at hi
  · exact h3 i x hi
  · simp at hi
end Go.Proofs.YtobkcdkffcenbaaGreatDoor.Tr
namespace Go.Proofs.YtobkcdkffcenbaaGreatDoor.Tr
open Go.ChangeShapes Go.WideShapes Go.ChangeAt Go.RowKit Go.Deep
set_option maxRecDepth 100000
def Short (e : List Nd) : Prop := ∀ x ∈ e, x.name.length ≤ maxLen
theorem cells3 : Tryz.prog.cellsOf 3 = 1 := by kernel_rfl
theorem cells9 : Tryz.prog.cellsOf 9 = 1 := by kernel_rfl
theorem cells30 : Tryz.prog.cellsOf 70 = 6 := by kernel_rfl
section
variable {H : Type} {enc : TypeId × Value → H} {w : World} {base : Nat} {spare : Nat → Bool} {held : Bool}
theorem node_cells {n : Nat} {cs : List Value} {y : DataW H × List MemPlace} (h : DataW.trod enc Tryz.prog w base spare held n 70 cs = some y) : ∃ x : Nd, cs = ndCells x ∧ x.name.length ≤ maxLen := by
  obtain ⟨xs, m, _, _, hlen, hxl, hf⟩ := DataW.trod_struct Tryz.underlying70 h
  rw [cells30] at hlen
  have hx6 : xs.length = 6 := hxl
  match cs, hlen, xs, hx6 with
  | [c0, c1, c2, c3, c4, c5], _, [y0, y1, y2, y3, y4, y5], _ =>
    have f0 : DataW.trod enc Tryz.prog w base spare held m 3 [c0] = some y0 := by have := hf 0 _ rfl; simpa [cells3, cells9] using this
    have f1 : DataW.trod enc Tryz.prog w base spare held m 3 [c1] = some y1 := by have := hf 1 _ rfl; simpa [cells3, cells9] using this
    have f2 : DataW.trod enc Tryz.prog w base spare held m 3 [c2] = some y2 := by have := hf 2 _ rfl; simpa [cells3, cells9] using this
    have f3 : DataW.trod enc Tryz.prog w base spare held m 3 [c3] = some y3 := by have := hf 3 _ rfl; simpa [cells3, cells9] using this
    have f4 : DataW.trod enc Tryz.prog w base spare held m 3 [c4] = some y4 := by have := hf 4 _ rfl; simpa [cells3, cells9] using this
    have f5 : DataW.trod enc Tryz.prog w base spare held m 9 [c5] = some y5 := by have := hf 5 _ rfl; simpa [cells3, cells9] using this
    obtain ⟨n0, e0, -, -⟩ := DataW.trod_int Tryz.underlying3 f0
    obtain ⟨n1, e1, -, -⟩ := DataW.trod_int Tryz.underlying3 f1
    obtain ⟨n2, e2, -, -⟩ := DataW.trod_int Tryz.underlying3 f2
    obtain ⟨n3, e3, -, -⟩ := DataW.trod_int Tryz.underlying3 f3
    obtain ⟨n4, e4, -, -⟩ := DataW.trod_int Tryz.underlying3 f4
    obtain ⟨s, e5, -, hs⟩ := DataW.trod_string Tryz.underlying9 f5
    simp only [List.cons.injEq, and_true] at e0 e1 e2 e3 e4 e5
    subst e0 e1 e2 e3 e4 e5
    refine ⟨⟨n0, n1, n2, n3, n4, s.toList⟩, by unfold ndCells; rw [str_of], ?_⟩
    rw [ByteArray.toList_eq]; simpa using hs
theorem spot_none {a : Addr} {v : Value} (h : w.cell? (a.add 0) = some v) : ∃ g o, a = ⟨g, o, none⟩ ∧ g < w.heap.size := by
  obtain ⟨g, o, spot⟩ := a
  have hspot : spot = none := by simpa [Addr.add] using World.cell?_spot h
  subst hspot
  exact ⟨g, o, rfl, World.block_lt_of_cell? w _ h⟩
theorem add_none (g o k : Nat) : (⟨g, o, none⟩ : Addr).add k = ⟨g, o + k, none⟩ := by unfold Addr.add; split <;> simp_all
theorem trod_nodes {n : Nat} {t : TypeId} (ht : Tryz.prog.underlying t = some (.slice 70)) {cs : List Value} {y : DataW H × List MemPlace} (h : DataW.trod enc Tryz.prog w base spare held n t cs = some y) :
    ∃ v l, cs = [v] ∧ Nodes w v l ∧ Short l ∧ ∀ c, v = .slice none 0 c → c = 0 := by
  rcases open_slice ht h with ⟨rfl, _⟩ | ⟨a, len, cap, m, n', D, Pl, rfl, hb, hl, hm, hmm, _, hi⟩
  · exact ⟨_, [], rfl, ⟨none, 0, rfl, by simp, by unfold maxLen; omega, fun i t h => by simp at h⟩, fun x hx => by simp at hx, fun c hc => by simp at hc; exact hc.symm⟩
  · have hml : len ≤ m := by rw [hmm]; split <;> omega
    have each : ∀ i, i < len → ∃ x : Nd, x.name.length ≤ maxLen ∧ ∀ k, k < 6 → w.cell? (a.add (i * 6 + k)) = (ndCells x)[k]? := fun i hil => by
      obtain ⟨cs', hc, ht'⟩ := hi i (by omega)
      obtain ⟨x, rfl, hx⟩ := node_cells ht'
      obtain ⟨_, hcl, hat⟩ := World.cells?_some hc
      rw [cells30] at hat
      exact ⟨x, hx, fun k hk => by rw [← Go.Deep.add_add]; exact hat k hk⟩
    obtain ⟨X, hX⟩ := Go.Deep.choose_lt each
    refine ⟨_, (List.range len).map X, rfl, ⟨some a, cap, by simp, by simpa using hl, hm, fun i x hx => ?_⟩, fun x hx => ?_, fun c hc => by simp at hc⟩
    · have hil : i < len := by have := (List.getElem?_eq_some_iff.1 hx).1; simpa using this
      rw [List.getElem?_map, List.getElem?_range hil] at hx
      simp only [Option.map_some, Option.some.injEq] at hx
      subst hx
      have h0 := (hX 0 (by omega)).2 0 (by omega)
      obtain ⟨g, o, rfl, hg⟩ := spot_none (v := .int .i64 (X 0).op) h0
      have q := (hX i hil).2
      simp only [add_none] at q
      exact ⟨g, o, rfl, hg, q 0 (by omega), q 1 (by omega), q 2 (by omega), q 3 (by omega), q 4 (by omega), q 5 (by omega)⟩
    · rw [List.mem_map] at hx
      obtain ⟨i, hi', rfl⟩ := hx
      exact (hX i (List.mem_range.1 hi')).1
end
end Go.Proofs.YtobkcdkffcenbaaGreatDoor.Tr
namespace Go.Proofs.YtobkcdkffcenbaaGreatDoor.Lx
open Go.ChangeShapes Go.WideShapes Go.ChangeAt Go.RowKit
def s1 : Bytes := [97, 45, 62, 112, 114, 101, 32, 98, 32, 45, 45, 32, 120, 10, 49, 50]
def l1 : List Tok := [⟨1, [97], 0⟩, ⟨4, [45, 62], 1⟩, ⟨3, [112, 114, 101], 3⟩, ⟨1, [98], 7⟩, ⟨2, [49, 50], 14⟩]
def LexGives (W : World) (l : List Tok) (c a : Int) (e : Ending) (w' : World) : Prop :=
  ∃ v, e = .returned (.tuple #[v, .agg #[.int .i64 c, .int .i64 a]]) ∧ Toks w' v l ∧ Below W.heap.size W w'
theorem LexPost.gives {W : World} {r : Res} {e : Ending} {w' : World} (h : LexPost W r e w') : LexGives W r.toks r.code r.at_ e w' := by
  obtain ⟨v, he, ho, hb⟩ := h
  exact ⟨v, he, Toks.of_own ho, hb⟩
theorem below_new (w : World) (o : Obj) : Below w.heap.size w (w.alloc o) := (Below.refl _ _).alloc (Nat.le_refl _) _
theorem below_drewN {B : Nat} {a w : World} (h : Below B a w) (n : Nat) : Below B a (w.drewN n) :=
  h.trans { os := rfl, tape := rfl, output := rfl, size := Nat.le_refl _, block := fun _ _ => rfl }
end Go.Proofs.YtobkcdkffcenbaaGreatDoor.Lx

