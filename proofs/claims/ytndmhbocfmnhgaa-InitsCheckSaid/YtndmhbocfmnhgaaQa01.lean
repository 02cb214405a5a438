/- What layer prog reads of tokens, as plain functions. Conditions: none. -/
import Derived.Test.YtndmhbocfmnhgaaPk10
import Derived.Test.YtndmhbocfmnhgaaPq17
import Derived.Test.YtndmhbocfmnhgaaPq18
namespace Go.Proofs.Ytndmhbocfmnhgaa.Pg
open Go.Proofs.Ytndmhbocfmnhgaa.Tr Go.Proofs.Ytndmhbocfmnhgaa.Ex
set_option linter.unusedVariables false
set_option linter.unusedSimpArgs false

/-- A stream that is told, an equation, an item, a unit, a program. -/
structure Prm where
  name : Bytes
  ty : Int
deriving DecidableEq
structure Eqn where
  name : Bytes
  e : List Nd
deriving DecidableEq
structure Itm where
  kind : Int
  name : Bytes
  ty : Int
  e : List Nd
  f : List Nd
  args : List (List Nd)
deriving DecidableEq
structure Unt where
  contract : Bool
  name : Bytes
  ins : List Prm
  out : Prm
  vars : List Prm
  eqs : List Eqn
  items : List Itm
deriving DecidableEq
structure Prg where
  units : List Unt
  main : Bytes
  back : Bytes
deriving DecidableEq
def Prg.none : Prg := ⟨[], [], []⟩

/-- What reads: a reader in, what is read and a reader out. -/
abbrev PM (α : Type) := Rd → α × Rd
def pBind {α β : Type} (f : PM α) (g : α → PM β) : PM β := fun r => g (f r).1 (f r).2
def pPure {α : Type} (a : α) : PM α := fun r => (a, r)
def txt (r : Rd) : Bytes := r.cur.text
def Rd.stop (C A : Int) (r : Rd) : Rd := if r.code = 0 then ⟨[], r.next, r.begun, C, A⟩ else ⟨[], r.next, r.begun, r.code, r.at_⟩
def Rd.to (n : Nat) (r : Rd) : Rd := ⟨r.l, n, r.begun, r.code, r.at_⟩
def atNameB (r : Rd) : Bool := decide (r.next < r.l.length) && r.cur.kind == 1
def nameP : PM Bytes := fun r => if atNameB r then (txt r, r.adv) else ([], r.fail 5)
def failP (e : Int) : PM Unit := fun r => ((), r.fail e)
def rowMax : Nat := 202
def wBool : Bytes := [98, 111, 111, 108]
def wInt : Bytes := [105, 110, 116]
def wNode : Bytes := [110, 111, 100, 101]
def wContract : Bytes := [99, 111, 110, 116, 114, 97, 99, 116]
def wMain : Bytes := [109, 97, 105, 110]
def wFallback : Bytes := [102, 97, 108, 108, 98, 97, 99, 107]
def wReturns : Bytes := [114, 101, 116, 117, 114, 110, 115]
def wVar : Bytes := [118, 97, 114]
def wLet : Bytes := [108, 101, 116]
def wTel : Bytes := [116, 101, 108]
def wEnd : Bytes := [101, 110, 100]
def wAssume : Bytes := [97, 115, 115, 117, 109, 101]
def wGuarantee : Bytes := [103, 117, 97, 114, 97, 110, 116, 101, 101]
def wGhost : Bytes := [103, 104, 111, 115, 116]
def wMode : Bytes := [109, 111, 100, 101]
def wImport : Bytes := [105, 109, 112, 111, 114, 116]
def wRequire : Bytes := [114, 101, 113, 117, 105, 114, 101]
def wEnsure : Bytes := [101, 110, 115, 117, 114, 101]
def sSemi : Bytes := [59]
def sColon : Bytes := [58]
def sEq : Bytes := [61]
def sComma : Bytes := [44]

end Go.Proofs.Ytndmhbocfmnhgaa.Pg

/- Programs in memory: rows of streams, equations, items, units; worlds in which all blocks but those of some types stay. Conditions: none. -/
namespace Go.Proofs.Ytndmhbocfmnhgaa.Pg
open Go.ChangeShapes Go.WideShapes Go.ChangeAt Go.RowKit
open Go.Proofs.Ytndmhbocfmnhgaa.Ex Go.Proofs.Ytndmhbocfmnhgaa.Tr
set_option linter.unusedVariables false
set_option linter.unusedSimpArgs false

/-- All blocks but those of some types stay. -/
structure Stay (P : TypeId → Prop) (w w' : World) : Prop where
  size : w.heap.size ≤ w'.heap.size
  block : ∀ (g : Nat) (cs : Array Value) (T : TypeId) (f : Nat × Nat), w.heap[g]? = some (Obj.cells cs T f) → ¬ P T → w'.heap[g]? = w.heap[g]?
theorem Stay.refl (P : TypeId → Prop) (w : World) : Stay P w w := ⟨Nat.le_refl _, fun _ _ _ _ _ _ => rfl⟩
theorem Stay.trans {P : TypeId → Prop} {w w1 w2 : World} (h : Stay P w w1) (k : Stay P w1 w2) : Stay P w w2 :=
  ⟨Nat.le_trans h.size k.size, fun g cs T f hg hp => (k.block g cs T f ((h.block g cs T f hg hp).trans hg) hp).trans (h.block g cs T f hg hp)⟩
theorem Stay.below {P : TypeId → Prop} {w w' : World} (h : Below w.heap.size w w') : Stay P w w' := ⟨h.size, fun g cs T f hg _ => h.block g (lt_of_block hg)⟩
theorem Stay.grown {P : TypeId → Prop} {w w' : World} {row : Option Nat} (h : w.grownBy w' row) (hb : ∀ B, row = some B → ∃ cs T f, w.heap[B]? = some (Obj.cells cs T f) ∧ P T) : Stay P w w' :=
  ⟨h.size, fun g cs T f hg hp => h.block g (lt_of_block hg) (fun e => by
    obtain ⟨cs', T', f', h1, h2⟩ := hb g e.symm
    rw [hg] at h1
    simp only [Option.some.injEq, Obj.cells.injEq] at h1
    exact hp (h1.2.1 ▸ h2))⟩
theorem Stay.pt {P : TypeId → Prop} {w w' : World} {x : Value × Pt} (h : Stay P w w') (hp : ¬ P 40) (k : PtW w x) : PtW w' x :=
  k.keep h.size (fun g ⟨cs, f, hc⟩ => h.block g cs 40 f hc hp)

/-- A slice that holds a list: K cells for each of its elements, of a type. -/
def RowR {α : Type} (T : TypeId) (K : Nat) (R : World → α → List Value → Prop) (w : World) (l : List α) (v : Value) : Prop :=
  ∃ A c, v = .slice A l.length c ∧ l.length ≤ c ∧ c ≤ maxLen ∧ ∀ (i : Nat) (a : α), l[i]? = some a → ∃ (g : Nat) (x : List Value) (cs : Array Value) (f : Nat × Nat), A = some ⟨g, 0, none⟩ ∧ w.heap[g]? = some (Obj.cells cs T f) ∧ R w a x ∧ x.length = K ∧ ∀ k, k < K → cs[i * K + k]? = x[k]?
theorem RowR.stay {α : Type} {T : TypeId} {K : Nat} {R : World → α → List Value → Prop} {P : TypeId → Prop} {w w' : World} {l : List α} {v : Value} (h : RowR T K R w l v) (st : Stay P w w') (hT : ¬ P T) (hR : ∀ a x, R w a x → R w' a x) : RowR T K R w' l v := by
  obtain ⟨A, c, rfl, h1, h2, h3⟩ := h
  refine ⟨A, c, rfl, h1, h2, fun i a hi => ?_⟩
  obtain ⟨g, x, cs, f, e1, e2, e3, e4, e5⟩ := h3 i a hi
  exact ⟨g, x, cs, f, e1, (st.block g cs T f e2 hT).trans e2, hR a x e3, e4, e5⟩
theorem RowR.nil {α : Type} (T : TypeId) (K : Nat) (R : World → α → List Value → Prop) (w : World) : RowR T K R w [] (.slice none 0 0) :=
  ⟨none, 0, rfl, by simp, by unfold maxLen; omega, fun i a h => by simp at h⟩
def PrmV (w : World) (p : Prm) (x : List Value) : Prop := x = [.string (str p.name), .int .i64 p.ty]
def EqnV (w : World) (q : Eqn) (x : List Value) : Prop := ∃ ev, x = [.string (str q.name), ev] ∧ PtW w (ev, ⟨q.e, 0, 0⟩)
def ExpV (w : World) (e : List Nd) (x : List Value) : Prop := ∃ ev, x = [ev] ∧ PtW w (ev, ⟨e, 0, 0⟩)
def ItmV (w : World) (i : Itm) (x : List Value) : Prop := ∃ ev fv av, x = [.int .i64 i.kind, .string (str i.name), .int .i64 i.ty, ev, fv, av] ∧ PtW w (ev, ⟨i.e, 0, 0⟩) ∧ PtW w (fv, ⟨i.f, 0, 0⟩) ∧ RowR 23 1 ExpV w i.args av
def UntV (w : World) (u : Unt) (x : List Value) : Prop := ∃ iv vv qv lv, x = [.bool u.contract, .string (str u.name), iv, .string (str u.out.name), .int .i64 u.out.ty, vv, qv, lv] ∧ RowR 54 2 PrmV w u.ins iv ∧ RowR 54 2 PrmV w u.vars vv ∧ RowR 60 2 EqnV w u.eqs qv ∧ RowR 62 6 ItmV w u.items lv
/-- The types of what is read of a program. -/
def Kept (P : TypeId → Prop) : Prop := ¬ P 40 ∧ ¬ P 23 ∧ ¬ P 54 ∧ ¬ P 60 ∧ ¬ P 62
theorem PrmV.stay {P : TypeId → Prop} {w w' : World} (st : Stay P w w') (p : Prm) (x : List Value) (h : PrmV w p x) : PrmV w' p x := h
theorem EqnV.stay {P : TypeId → Prop} {w w' : World} (st : Stay P w w') (h58 : ¬ P 40) (p : Eqn) (x : List Value) (h : EqnV w p x) : EqnV w' p x := by
  obtain ⟨ev, h1, h2⟩ := h; exact ⟨ev, h1, st.pt h58 h2⟩
theorem ExpV.stay {P : TypeId → Prop} {w w' : World} (st : Stay P w w') (h58 : ¬ P 40) (p : List Nd) (x : List Value) (h : ExpV w p x) : ExpV w' p x := by
  obtain ⟨ev, h1, h2⟩ := h; exact ⟨ev, h1, st.pt h58 h2⟩
theorem ItmV.stay {P : TypeId → Prop} {w w' : World} (st : Stay P w w') (h58 : ¬ P 40) (h23 : ¬ P 23) (p : Itm) (x : List Value) (h : ItmV w p x) : ItmV w' p x := by
  obtain ⟨ev, fv, av, h1, h2, h3, h4⟩ := h
  exact ⟨ev, fv, av, h1, st.pt h58 h2, st.pt h58 h3, h4.stay st h23 (ExpV.stay st h58)⟩
theorem UntV.stay {P : TypeId → Prop} {w w' : World} (st : Stay P w w') (hk : Kept P) (p : Unt) (x : List Value) (h : UntV w p x) : UntV w' p x := by
  obtain ⟨iv, vv, qv, lv, h1, h2, h3, h4, h5⟩ := h
  obtain ⟨k1, k2, k3, k4, k5⟩ := hk
  exact ⟨iv, vv, qv, lv, h1, h2.stay st k3 (PrmV.stay st), h3.stay st k3 (PrmV.stay st), h4.stay st k4 (EqnV.stay st k1), h5.stay st k5 (ItmV.stay st k1 k2)⟩

theorem flat_at {K : Nat} : ∀ (xs : List (List Value)) (i : Nat) (x : List Value), (∀ y ∈ xs, y.length = K) → xs[i]? = some x → ∀ k, k < K → xs.flatten[i * K + k]? = x[k]?
  | [], i, x, _, h, k, _ => by simp at h
  | y :: r, 0, x, hw, h, k, hk => by
    simp at h; subst h
    rw [List.flatten_cons, Nat.zero_mul, Nat.zero_add, List.getElem?_append_left (by rw [hw y (by simp)]; exact hk)]
  | y :: r, i + 1, x, hw, h, k, hk => by
    simp at h
    have hy := hw y (by simp)
    have e : (i + 1) * K = i * K + K := Nat.succ_mul i K
    rw [List.flatten_cons, List.getElem?_append_right (by omega), ← flat_at r i x (fun z hz => hw z (by simp [hz])) h k hk]
    congr 1; omega
theorem flat_len {K : Nat} : ∀ (xs : List (List Value)), (∀ y ∈ xs, y.length = K) → xs.flatten.length = xs.length * K
  | [], _ => by simp
  | y :: r, h => by rw [List.flatten_cons, List.length_append, h y (by simp), flat_len r (fun z hz => h z (by simp [hz])), List.length_cons, Nat.succ_mul]; omega
/-- A row under way: what is read so far lies in a row that was made on the way. -/
structure OList {α : Type} (T : TypeId) (K : Nat) (R : World → α → List Value → Prop) (w : World) (base : Nat) (ov : Value) (l : List α) (xs : List (List Value)) : Prop where
  own : w.ownsRow base T K ov l.length xs.flatten
  len : xs.length = l.length
  wid : ∀ y ∈ xs, y.length = K
  el : ∀ (i : Nat) (x : List Value) (a : α), xs[i]? = some x → l[i]? = some a → R w a x
section
variable {α : Type} {T : TypeId} {K : Nat} {R : World → α → List Value → Prop}
theorem OList.nil (w : World) (base : Nat) : OList (α := α) T K R w base (.slice none 0 0) [] [] :=
  ⟨World.ownsRow_nil _ _ _ _, rfl, fun y h => by simp at h, fun i x a h => by simp at h⟩
theorem OList.typed {w : World} {base : Nat} {ov : Value} {l : List α} {xs : List (List Value)} (h : OList T K R w base ov l xs) : ∀ B, ov.ownBlock = some B → ∃ cs f, w.heap[B]? = some (Obj.cells cs T f) := by
  intro B hB
  obtain ⟨hl, h0 | ⟨g, cap, cur, hv, hb, hh, _⟩⟩ := h.own
  · rw [h0.1] at hB; cases hB
  · rw [hv] at hB
    have e : some g = some B := hB
    injection e with e
    subst e
    exact ⟨_, _, hh⟩
theorem OList.row {w : World} {base : Nat} {ov : Value} {l : List α} {xs : List (List Value)} (h : OList T K R w base ov l xs) : RowR T K R w l ov := by
  obtain ⟨hl, h0 | ⟨g, cap, cur, rfl, hb, hh, hnc, hcm, hcs, hct⟩⟩ := h.own
  · obtain ⟨rfl, h0⟩ := h0
    have : l = [] := List.length_eq_zero_iff.1 h0
    subst this
    exact RowR.nil _ _ _ _
  · have hown : w.ownsRow base T K (.slice (some ⟨g, 0, none⟩) l.length cap) l.length xs.flatten := ⟨hl, .inr ⟨g, cap, cur, rfl, hb, hh, hnc, hcm, hcs, hct⟩⟩
    refine ⟨some ⟨g, 0, none⟩, cap, rfl, hnc, hcm, fun i a hi => ?_⟩
    have hil : i < l.length := (List.getElem?_eq_some_iff.1 hi).1
    obtain ⟨x, hx⟩ : ∃ x, xs[i]? = some x := ⟨_, List.getElem?_eq_getElem (by rw [h.len]; exact hil)⟩
    refine ⟨g, x, cur, _, rfl, hh, h.el i x a hx hi, h.wid x (List.mem_of_getElem? hx), fun k hk => ?_⟩
    have hle : (i + 1) * K ≤ l.length * K := Nat.mul_le_mul_right K hil
    rw [Nat.succ_mul] at hle
    have c := hown.cellAt (i * K + k) (by omega)
    rw [flat_at xs i x h.wid hx k hk] at c
    rw [← c]
    simp [World.cell?, hh]
theorem OList.keep {w w' : World} {base : Nat} {ov : Value} {l : List α} {xs : List (List Value)} (h : OList T K R w base ov l xs) (hk : ∀ g, ov.ownBlock = some g → w'.heap[g]? = w.heap[g]?) (hR : ∀ a x, R w a x → R w' a x) : OList T K R w' base ov l xs :=
  ⟨own_block h.own hk, h.len, h.wid, fun i x a h1 h2 => hR a x (h.el i x a h1 h2)⟩
theorem OList.stay {P : TypeId → Prop} {w w' : World} {base : Nat} {ov : Value} {l : List α} {xs : List (List Value)} (h : OList T K R w base ov l xs) (st : Stay P w w') (hT : ¬ P T) (hR : ∀ a x, R w a x → R w' a x) : OList T K R w' base ov l xs :=
  h.keep (fun g hg => by obtain ⟨cs, f, hc⟩ := h.typed g hg; exact st.block g cs T f hc hT) hR
theorem OList.snoc {w W w' : World} {base : Nat} {ov ov' : Value} {l : List α} {xs : List (List Value)} {a : α} {x : List Value} (h : OList T K R w base ov l xs) (hx : R w a x) (hl : x.length = K) (hW : Below w.heap.size w W) (hown : w'.ownsRow base T K ov' (l.length + 1) (xs.flatten ++ x)) (hg : W.grownBy w' ov.ownBlock)
    (hR : Stay (fun t => t = T) w w' → ∀ a x, R w a x → R w' a x) : OList T K R w' base ov' (l ++ [a]) (xs ++ [x]) := by
  have st : Stay (fun t => t = T) w w' := (Stay.below hW).trans (Stay.grown hg (fun B hB => by
    obtain ⟨cs, f, hc⟩ := h.typed B hB
    exact ⟨cs, T, f, (hW.block B (lt_of_block hc)).trans hc, rfl⟩))
  refine ⟨by rw [List.length_append, List.flatten_append]; simpa using hown, by rw [List.length_append, List.length_append, h.len]; rfl, fun y hy => ?_, fun i y b h1 h2 => hR st _ _ ?_⟩
  · rcases List.mem_append.1 hy with h1 | h1
    · exact h.wid y h1
    · simp at h1; rw [h1]; exact hl
  · by_cases hi : i < xs.length
    · rw [List.getElem?_append_left hi] at h1
      rw [List.getElem?_append_left (by rw [← h.len]; exact hi)] at h2
      exact h.el i y b h1 h2
    · rw [List.getElem?_append_right (by omega)] at h1
      rw [List.getElem?_append_right (by rw [← h.len]; omega)] at h2
      have e0 : i - xs.length = 0 := by
        have := (List.getElem?_eq_some_iff.1 h1).1
        simp at this; omega
      rw [e0] at h1
      rw [← h.len, e0] at h2
      simp at h1 h2
      subst h1; subst h2
      exact hx
end

end Go.Proofs.Ytndmhbocfmnhgaa.Pg

/- What the document's reader of programs reads of tokens, as plain functions. Conditions: none. -/
namespace Go.Proofs.Ytndmhbocfmnhgaa.Rp
open Go.Proofs.Ytndmhbocfmnhgaa.Tr Go.Proofs.Ytndmhbocfmnhgaa.Ex
open Go.Proofs.Ytndmhbocfmnhgaa.Pg (Prm Eqn Itm Unt Prg PM pBind pPure txt Rd.stop Rd.to atNameB nameP failP rowMax wBool wInt wNode wContract wMain wFallback wReturns wVar wLet wTel wEnd wAssume wGuarantee wGhost wMode wImport wRequire wEnsure sSemi sColon sEq sComma)
set_option linter.unusedVariables false
set_option linter.unusedSimpArgs false

def needQ (s : Bytes) : PM Unit := fun r => ((), r.need s)
def takeQ (s : Bytes) : PM Bool := fun r => if r.isB s then (true, r.adv) else (false, r)
def roomQ (n : Nat) : PM Unit := fun r => ((), if 200 ≤ n then r.fail 7 else r)
def exprQ : PM (List Nd) := fun r => if r.code ≠ 0 then ([], r) else if (parseM r.l r.next).2.2.1 ≠ 0 then ([], Pg.Rd.stop (parseM r.l r.next).2.2.1 (parseM r.l r.next).2.2.2 r) else ((parseM r.l r.next).1, Pg.Rd.to (parseM r.l r.next).2.1 r)
def paramQ : PM Prm := pBind nameP fun n => pBind (needQ sColon) fun _ => pBind (takeQ wBool) fun b => if b then pPure ⟨n, 1⟩ else pBind (takeQ wInt) fun i => if i then pPure ⟨n, 2⟩ else pBind (failP 5) fun _ => pPure ⟨n, 0⟩
/-- Things in round signs, a sign between any two. -/
def inF {α : Type} (sep : Bytes) (one : PM α) : Nat → List α → PM (List α)
  | 0, _ => pPure []
  | k + 1, acc => fun r => if r.code = 0 then pBind (roomQ acc.length) (fun _ => pBind one fun a => pBind (takeQ [41]) fun b => if b then pPure (acc ++ [a]) else pBind (needQ sep) fun _ => inF sep one k (acc ++ [a])) r else ([], r)
def inQ {α : Type} (sep : Bytes) (one : PM α) : PM (List α) := pBind (needQ [40]) fun _ => pBind (takeQ [41]) fun b => if b then pPure [] else inF sep one rowMax []
def varF : Nat → List Prm → PM (List Prm)
  | 0, _ => pPure []
  | k + 1, acc => fun r => if r.code = 0 then pBind (roomQ acc.length) (fun _ => pBind paramQ fun a => pBind (needQ sSemi) fun _ => fun r' => if atNameB r' then varF k (acc ++ [a]) r' else (acc ++ [a], r')) r else ([], r)
def varQ : PM (List Prm) := varF rowMax []
def eqnQ : PM Eqn := pBind nameP fun n => pBind (needQ sEq) fun _ => pBind exprQ fun e => pBind (needQ sSemi) fun _ => pPure ⟨n, e⟩
def eqF : Nat → List Eqn → PM (List Eqn)
  | 0, acc => pPure acc
  | k + 1, acc => fun r => if atNameB r then pBind (roomQ acc.length) (fun _ => pBind eqnQ fun q => eqF k (acc ++ [q])) r else (acc, r)
def eqsQ : PM (List Eqn) := pBind (eqF rowMax []) fun l => pBind (needQ wTel) fun _ => pPure l
/-- What an item is behind its word. -/
def itemOfQ (k : Int) : PM Itm :=
  if k = 3 then pBind paramQ fun p => pBind (needQ sEq) fun _ => pBind exprQ fun e => pBind (needQ sSemi) fun _ => pPure ⟨k, p.name, p.ty, e, [], []⟩
  else if k = 4 then pBind nameP fun n => pBind (needQ wRequire) fun _ => pBind exprQ fun e => pBind (needQ wEnsure) fun _ => pBind exprQ fun f => pBind (needQ sSemi) fun _ => pPure ⟨k, n, 0, e, f, []⟩
  else if k = 5 then pBind nameP fun n => pBind (inQ sComma exprQ) fun l => pBind (needQ sSemi) fun _ => pPure ⟨k, n, 0, [], [], l⟩
  else pBind exprQ fun e => pBind (needQ sSemi) fun _ => pPure ⟨k, [], 0, e, [], []⟩
/-- Which item begins here; 0: none. -/
def kindQ (r : Rd) : Int := if r.isB wAssume then 1 else if r.isB wGuarantee then 2 else if r.isB wGhost then 3 else if r.isB wMode then 4 else if r.isB wImport then 5 else 0
def itemQ : PM (Option Itm) := fun r => if kindQ r = 0 then (none, r) else pBind (itemOfQ (kindQ r)) (fun i => pPure (some i)) r.adv
def itF : Nat → List Itm → PM (List Itm)
  | 0, acc => pPure acc
  | k + 1, acc => fun r => if kindQ r ≠ 0 then pBind (roomQ acc.length) (fun _ => pBind itemQ fun x => itF k (acc ++ x.toList)) r else (acc, r)
def itemsQ : PM (List Itm) := pBind (itF rowMax []) fun l => pBind (needQ wEnd) fun _ => pPure l
def contractQ : PM Unt := pBind nameP fun n => pBind (inQ sSemi paramQ) fun i => pBind itemsQ fun l => pPure ⟨true, n, i, ⟨[], 0⟩, [], [], l⟩
def nodeQ : PM Unt := pBind (needQ wNode) fun _ => pBind nameP fun n => pBind (inQ sSemi paramQ) fun i => pBind (needQ wReturns) fun _ => pBind (needQ [40]) fun _ => pBind paramQ fun o => pBind (needQ [41]) fun _ =>
  pBind (takeQ wContract) fun c => pBind (if c then itemsQ else pPure []) fun l => pBind (takeQ wVar) fun v => pBind (if v then varQ else pPure []) fun vs => pBind (needQ wLet) fun _ => pBind eqsQ fun es => pPure ⟨false, n, i, o, vs, es, l⟩
def unitQ : PM Unt := pBind (takeQ wContract) fun c => if c then contractQ else nodeQ
def atUnitQ (r : Rd) : Bool := r.isB wNode || r.isB wContract
def unF : Nat → List Unt → PM (List Unt)
  | 0, acc => pPure acc
  | k + 1, acc => fun r => if atUnitQ r then pBind (roomQ acc.length) (fun _ => pBind unitQ fun u => unF k (acc ++ [u])) r else (acc, r)
/-- What has failed stays so. -/
def Stick {α : Type} (f : PM α) : Prop := ∀ r, r.code ≠ 0 → (f r).2.code ≠ 0
theorem Stick.bind {α β : Type} {f : PM α} {g : α → PM β} (hf : Stick f) (hg : ∀ a, Stick (g a)) : Stick (pBind f g) := fun r h => hg _ _ (hf r h)
theorem stick_pure {α : Type} (a : α) : Stick (pPure a) := fun r h => h
theorem stick_rfail (e : Int) (he : e ≠ 0) (r : Rd) : (r.fail e).code ≠ 0 := by unfold Rd.fail; split <;> simp_all
theorem stick_need (s : Bytes) : Stick (needQ s) := fun r h => by
  unfold needQ Rd.need; simp only; split
  · exact h
  · exact stick_rfail 5 (by decide) r
theorem stick_room (n : Nat) : Stick (roomQ n) := fun r h => by
  unfold roomQ; simp only; split
  · exact stick_rfail 7 (by decide) r
  · exact h
theorem stick_take (s : Bytes) : Stick (takeQ s) := fun r h => by unfold takeQ; split <;> exact h
theorem stick_name : Stick nameP := fun r h => by
  unfold nameP; split
  · exact h
  · exact stick_rfail 5 (by decide) r
theorem stick_fail (e : Int) (he : e ≠ 0) : Stick (failP e) := fun r h => stick_rfail e he r
theorem stick_expr : Stick exprQ := fun r h => by unfold exprQ; rw [if_pos h]; exact h
theorem stick_if {α : Type} {c : Prop} [Decidable c] {f g : PM α} (hf : Stick f) (hg : Stick g) : Stick (if c then f else g) := by split; exact hf; exact hg
theorem stick_param : Stick paramQ := stick_name.bind fun n => (stick_need _).bind fun _ => (stick_take _).bind fun b => stick_if (stick_pure _) ((stick_take _).bind fun i => stick_if (stick_pure _) ((stick_fail 5 (by decide)).bind fun _ => stick_pure _))
theorem stick_eqn : Stick eqnQ := stick_name.bind fun n => (stick_need _).bind fun _ => stick_expr.bind fun e => (stick_need _).bind fun _ => stick_pure _
end Go.Proofs.Ytndmhbocfmnhgaa.Rp

/- The document's reader of programs in memory. Conditions: none. -/
namespace Go.Proofs.Ytndmhbocfmnhgaa.Rp
open Go.ChangeShapes Go.WideShapes Go.ChangeAt Go.RowKit
open Go.Proofs.Ytndmhbocfmnhgaa.Ex
open Go.Proofs.Ytndmhbocfmnhgaa.Tr (str ret_bool ret_int Bytes Nd)
open Go.Proofs.Ytndmhbocfmnhgaa.Pg
set_option linter.unusedVariables false
set_option linter.unusedSimpArgs false

def rpCells (lv : Value) (i : Nat) (c a : Int) : Array Value := #[lv, .int .i64 (i : Int), .int .i64 c, .int .i64 a]
/-- A reader of tokens in memory, as a plain one is. -/
structure RpAt (w : World) (b : Nat) (L : List Ex.Tok) (r : Rd) (lv : Value) (i : Nat) (c a : Int) : Prop where
  blk : w.heap[b]? = some (.cells (rpCells lv i c a) 80 (0, 0))
  tok : TokOff w b lv L
  okl : Rf.OkL L
  txt : ∀ t ∈ L, t.text.length ≤ 1000000
  ile : i ≤ L.length
  st : (r.code = 0 ∧ c = 0 ∧ r.l = L ∧ i = r.next) ∨ (r.code ≠ 0 ∧ c = r.code ∧ a = r.at_ ∧ r.l = [])
def RdIn (w : World) (b : Nat) (r : Rd) : Prop := ∃ L lv i c a, RpAt w b L r lv i c a
theorem RpAt.keep {w w' : World} {b : Nat} {L : List Ex.Tok} {r : Rd} {lv : Value} {i : Nat} {c a : Int} (h : RpAt w b L r lv i c a) (hs : w.heap.size ≤ w'.heap.size) (hk : ∀ g, g < b → g < w.heap.size → w'.heap[g]? = w.heap[g]?) (hb : w'.heap[b]? = w.heap[b]?) : RpAt w' b L r lv i c a :=
  ⟨hb.trans h.blk, h.tok.keep hs hk, h.okl, h.txt, h.ile, h.st⟩
theorem RdIn.keep {w w' : World} {b : Nat} {r : Rd} (h : RdIn w b r) (hs : w.heap.size ≤ w'.heap.size) (hk : ∀ g, g < b → g < w.heap.size → w'.heap[g]? = w.heap[g]?) (hb : w'.heap[b]? = w.heap[b]?) : RdIn w' b r := by
  obtain ⟨L, lv, i, c, a, h⟩ := h
  exact ⟨L, lv, i, c, a, h.keep hs hk hb⟩
theorem RdIn.lt {w : World} {b : Nat} {r : Rd} (h : RdIn w b r) : b < w.heap.size := by
  obtain ⟨_, _, _, _, _, h⟩ := h; exact lt_of_block h.blk
theorem RdIn.below {w w' : World} {b : Nat} {r : Rd} (h : RdIn w b r) (hb : Below w.heap.size w w') : RdIn w' b r :=
  h.keep hb.size (fun g _ hg => hb.block g hg) (hb.block b h.lt)
/-- What turns a reader alone. -/
structure RdBy (w w' : World) (b : Nat) (r' : Rd) : Prop where
  rd : RdIn w' b r'
  grown : w.grownBy w' (some b)
theorem RdBy.refl {w : World} {b : Nat} {r : Rd} (h : RdIn w b r) : RdBy w w b r := ⟨h, World.grownBy.refl w _⟩
theorem RdBy.below {w w1 w' : World} {b : Nat} {r' : Rd} (hb : Below w.heap.size w w1) (hlt : b < w.heap.size) (h : RdBy w1 w' b r') : RdBy w w' b r' :=
  ⟨h.rd, ⟨h.grown.os.trans hb.os, h.grown.tape.trans hb.tape, h.grown.output.trans hb.output, Nat.le_trans hb.size h.grown.size, fun i hi hne => (h.grown.block i (Nat.lt_of_lt_of_le hi hb.size) hne).trans (hb.block i hi)⟩⟩
theorem RdBy.of_below {w w' : World} {b : Nat} {r : Rd} (h : RdIn w b r) (hb : Below w.heap.size w w') : RdBy w w' b r :=
  ⟨h.below hb, ⟨hb.os, hb.tape, hb.output, hb.size, fun i hi _ => hb.block i hi⟩⟩
theorem RdBy.trans {w w1 w2 : World} {b : Nat} {r1 r2 : Rd} (h : RdBy w w1 b r1) (k : RdBy w1 w2 b r2) : RdBy w w2 b r2 :=
  ⟨k.rd, ⟨k.grown.os.trans h.grown.os, k.grown.tape.trans h.grown.tape, k.grown.output.trans h.grown.output, Nat.le_trans h.grown.size k.grown.size, fun i hi hne => (k.grown.block i (Nat.lt_of_lt_of_le hi h.grown.size) hne).trans (h.grown.block i hi hne)⟩⟩
theorem RdBy.then_below {w w1 w2 : World} {b : Nat} {r1 : Rd} (h : RdBy w w1 b r1) (k : Below w1.heap.size w1 w2) : RdBy w w2 b r1 := h.trans (RdBy.of_below h.rd k)
theorem RdBy.setLocal {w wr : World} {b B k : Nat} {r : Rd} (h : RdBy w wr b r) (hB : w.heap.size ≤ B) (hlt : b < w.heap.size) (v : Value) : RdBy w (wr.setCell ⟨B, k, none⟩ v) b r := by
  have ho : ∀ g, g < w.heap.size → (wr.setCell ⟨B, k, none⟩ v).heap[g]? = wr.heap[g]? := fun g hg => Below.heap_setCell _ _ _ _ (by simp; omega)
  refine ⟨h.rd.keep (by simp [World.setCell]) (fun g h1 h2 => ho g (by omega)) (ho b hlt), ⟨h.grown.os, h.grown.tape, h.grown.output, by simpa [World.setCell] using h.grown.size, fun i hi hne => (ho i hi).trans (h.grown.block i hi hne)⟩⟩
theorem rp_cell {w : World} {b : Nat} {lv : Value} {i : Nat} {c a : Int} (h : w.heap[b]? = some (.cells (rpCells lv i c a) 80 (0, 0))) (k : Nat) : w.cell? ⟨b, k, none⟩ = (rpCells lv i c a)[k]? := by simp [World.cell?, h]
theorem rp_free {w : World} {b : Nat} {lv : Value} {i : Nat} {c a : Int} (h : w.heap[b]? = some (.cells (rpCells lv i c a) 80 (0, 0))) (k : Nat) : w.frozen? ⟨b, k, none⟩ = false := by simp [World.frozen?, h]
/-- Behind a reader's turn all blocks but readers stay. -/
theorem RdBy.stay {w w' : World} {b : Nat} {r r' : Rd} (h : RdIn w b r) (k : RdBy w w' b r') : Stay (fun t => t = 80) w w' :=
  Stay.grown k.grown (fun B hB => by
    injection hB with hB; subst hB
    obtain ⟨L, lv, i, c, a, h⟩ := h
    exact ⟨_, _, _, h.blk, rfl⟩)
theorem rset_heap (w : World) (b k : Nat) (v : Value) (g : Nat) (h : g ≠ b) : (w.setCell ⟨b, k, none⟩ v).heap[g]? = w.heap[g]? := Below.heap_setCell w ⟨b, k, none⟩ v g (by simpa using h)
/-- Fields of the reader are turned. -/
theorem RpAt.turn {w W : World} {b : Nat} {L : List Ex.Tok} {r r' : Rd} {lv : Value} {i i' : Nat} {c a c' a' : Int} (h : RpAt w b L r lv i c a)
    (hW : W.heap[b]? = some (.cells (rpCells lv i' c' a') 80 (0, 0))) (hs : W.heap.size = w.heap.size) (hos : W.os = w.os) (ht : W.tape = w.tape) (hou : W.output = w.output) (ho : ∀ g, g ≠ b → W.heap[g]? = w.heap[g]?)
    (hi : i' ≤ L.length) (hst : (r'.code = 0 ∧ c' = 0 ∧ r'.l = L ∧ i' = r'.next) ∨ (r'.code ≠ 0 ∧ c' = r'.code ∧ a' = r'.at_ ∧ r'.l = [])) : RdBy w W b r' :=
  ⟨⟨L, lv, i', c', a', hW, h.tok.keep (by omega) (fun g hg _ => ho g (by omega)), h.okl, h.txt, hi, hst⟩, ⟨hos, ht, hou, by omega, fun g _ hne => ho g (fun e => hne (by rw [e]))⟩⟩
theorem RpAt.setI {w : World} {b : Nat} {L : List Ex.Tok} {r : Rd} {lv : Value} {i : Nat} {c a : Int} (h : RpAt w b L r lv i c a) (hc : r.code = 0) (hi : i < L.length) :
    RdBy w (w.setCell ⟨b, 1, none⟩ (.int .i64 ((i : Int) + 1))) b r.adv := by
  have hst := h.st
  rcases hst with ⟨h1, h2, h3, h4⟩ | ⟨h1, _⟩
  · refine h.turn (i' := i + 1) (c' := c) (a' := a) ?_ (by simp [World.setCell]) rfl rfl rfl (fun g hg => rset_heap _ _ _ _ _ hg) (by omega) (.inl ⟨h1, h2, h3, by simp [Rd.adv, h4]⟩)
    rw [setObj_heap h.blk (by simp [rpCells])]; simp [rpCells]
  · exact absurd hc h1
theorem RpAt.setTo {w : World} {b : Nat} {L : List Ex.Tok} {r : Rd} {lv : Value} {i : Nat} {c a : Int} (h : RpAt w b L r lv i c a) (hc : r.code = 0) {n : Nat} (hi : n ≤ L.length) :
    RdBy w (w.setCell ⟨b, 1, none⟩ (.int .i64 (n : Int))) b (Pg.Rd.to n r) := by
  have hst := h.st
  rcases hst with ⟨h1, h2, h3, h4⟩ | ⟨h1, _⟩
  · refine h.turn (i' := n) (c' := c) (a' := a) ?_ (by simp [World.setCell]) rfl rfl rfl (fun g hg => rset_heap _ _ _ _ _ hg) hi (.inl ⟨h1, h2, h3, rfl⟩)
    rw [setObj_heap h.blk (by simp [rpCells])]; simp [rpCells]
  · exact absurd hc h1
theorem RpAt.setF {w : World} {b : Nat} {L : List Ex.Tok} {r : Rd} {lv : Value} {i : Nat} {c a : Int} (h : RpAt w b L r lv i c a) (hc : r.code = 0) (e x : Int) (he : e ≠ 0) :
    RdBy w ((w.setCell ⟨b, 2, none⟩ (.int .i64 e)).setCell ⟨b, 3, none⟩ (.int .i64 x)) b (Pg.Rd.stop e x r) := by
  have k1 := setObj_heap (v := .int .i64 e) h.blk (k := 2) (by simp [rpCells])
  have k2 := setObj_heap (v := .int .i64 x) k1 (k := 3) (by simp [rpCells])
  have hf : Pg.Rd.stop e x r = ⟨[], r.next, r.begun, e, x⟩ := by unfold Pg.Rd.stop; rw [if_pos hc]
  rw [hf]
  refine h.turn (i' := i) (c' := e) (a' := x) ?_ (by simp [World.setCell]) rfl rfl rfl (fun g hg => by rw [rset_heap _ _ _ _ _ hg, rset_heap _ _ _ _ _ hg]) h.ile (.inr ⟨he, rfl, rfl, rfl⟩)
  rw [k2]; simp [rpCells]
theorem RdIn.fine {w : World} {b : Nat} {r : Rd} (h : RdIn w b r) : r.fine := fun hc => by
  obtain ⟨L, lv, i, c, a, h⟩ := h
  rcases h.st with ⟨h1, _⟩ | ⟨_, _, _, h4⟩
  · exact absurd h1 hc
  · exact h4
/-- A reader that has failed stays so. -/
theorem RdIn.dead {w : World} {b : Nat} {r r' : Rd} (h : RdIn w b r) (h0 : r.code ≠ 0) (hc : r'.code = r.code) (ha : r'.at_ = r.at_) (hl : r'.l = []) : RdIn w b r' := by
  obtain ⟨L, lv, i, c, a, h⟩ := h
  refine ⟨L, lv, i, c, a, h.blk, h.tok, h.okl, h.txt, h.ile, ?_⟩
  rcases h.st with ⟨h1, _⟩ | ⟨_, h2, h3, _⟩
  · exact absurd h1 h0
  · exact .inr ⟨by rw [hc]; exact h0, by rw [hc]; exact h2, by rw [ha]; exact h3, hl⟩
theorem RpAt.below {w w' : World} {b : Nat} {L : List Ex.Tok} {r : Rd} {lv : Value} {i : Nat} {c a : Int} (h : RpAt w b L r lv i c a) (hb : Below w.heap.size w w') : RpAt w' b L r lv i c a :=
  h.keep hb.size (fun g _ hg => hb.block g hg) (hb.block b (lt_of_block h.blk))
theorem RdIn.drew {w : World} {b : Nat} {r : Rd} (h : RdIn w b r) : RdIn w.drew b r := h.keep (Nat.le_refl _) (fun _ _ _ => rfl) rfl
end Go.Proofs.Ytndmhbocfmnhgaa.Rp

