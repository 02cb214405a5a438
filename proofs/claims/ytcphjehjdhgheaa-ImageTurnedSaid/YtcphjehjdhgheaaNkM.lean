/- What the operators of layer num make of numbers, as plain functions on integers. Conditions: none. What a net tells, instant by instant; instructions, whether they may be, what they tell; as plain functions. Conditions: none. -/
import Derived.Test.YtcphjehjdhgheaaNtM
namespace Go.Proofs.Ytcphjehjdhgheaa.Num

/-- Whether a number has 32 bits. -/
def fitB (n : Int) : Bool := decide (-2147483648 ≤ n ∧ n ≤ 2147483647)
theorem fit_yes {n : Int} (h : -2147483648 ≤ n ∧ n ≤ 2147483647) : fitB n = true := by simp [fitB, h]
theorem fit_no {n : Int} (h : ¬ (-2147483648 ≤ n ∧ n ≤ 2147483647)) : fitB n = false := by simp [fitB, h]
theorem fit_iff {n : Int} : fitB n = true ↔ (-2147483648 ≤ n ∧ n ≤ 2147483647) := by simp [fitB]

/-- How many operands an operator takes. -/
def opN (op : Int) : Int := if op = 26 then 3 else if 6 ≤ op ∧ op ≤ 18 then 2 else if op = 4 ∨ op = 5 then 1 else -1

/-- Whether all operands fit. -/
def takenB (n a b c : Int) : Bool := (n == 3 && fitB c && fitB b && fitB a) || (n == 2 && fitB b && fitB a) || (n == 1 && fitB a)

def bn (b : Bool) : Int := if b then 1 else 0

/-- A number and no error if it fits; else 0 and error 2. -/
def over (n : Int) : Int × Int := if fitB n then (n, 0) else (0, 2)

/-- What the operators that reckon make. -/
def reck (op a b : Int) : Int × Int :=
  if b = 0 ∧ (op = 17 ∨ op = 18) then (0, 3)
  else over (if op = 5 then -a else if op = 15 then a - b else if op = 14 then a + b else if op = 16 then a * b else if op = 17 then a.tdiv b else if op = 18 then a.tmod b else a)

def cmpB (op a b : Int) : Bool := if op = 10 then a == b else if op = 11 then a != b else if op = 12 then decide (a < b) else decide (a ≤ b)

def joinB (op : Int) (a b : Bool) : Bool :=
  if op = 9 then !a || b else if op = 7 then a || b else if op = 4 then !a else if op = 8 then a != b else a && b

/-- What an operator makes of its operands. -/
def doN (op a b c : Int) : Int × Int :=
  if takenB (opN op) a b c = false then (0, 1)
  else if op = 26 then (if a ≠ 0 then b else c, 0)
  else if op = 5 ∨ op = 14 ∨ op = 15 ∨ op = 16 ∨ op = 17 ∨ op = 18 then reck op a b
  else if op = 10 ∨ op = 11 ∨ op = 12 ∨ op = 13 then (bn (cmpB op a b), 0)
  else (bn (joinB op (a != 0) (b != 0)), 0)
end Go.Proofs.Ytcphjehjdhgheaa.Num

namespace Go.Proofs.Ytcphjehjdhgheaa.Nt
open Go.Proofs.Ytcphjehjdhgheaa.Num (doN)
set_option linter.unusedVariables false
set_option linter.unusedSimpArgs false

/-! ### What a net tells -/
def at0 (l : List Int) (k : Int) : Int := l.getD k.toNat 0
def arg (l : List Int) (v : List Int) (j : Nat) : Int := match l[j]? with | some k => at0 v k | none => 0
/-- An operator's value and its error, of those of its instant and of the one ahead. -/
def valN (x : Op5) (row v was : List Int) : Int × Int :=
  if x.op = 3 then (at0 row x.n, 0) else if x.op = 1 ∨ x.op = 2 then (x.n, 0)
  else if x.op = 19 then (if was.length = 0 then at0 v x.a else at0 v x.b, 0)
  else if x.op = 21 then (if was.length = 0 then 0 else at0 was x.a, 0)
  else doN x.op (arg (needI x) v 0) (arg (needI x) v 1) (arg (needI x) v 2)
def leastE (b e : Int) : Int := if e ≠ 0 ∧ (b = 0 ∨ e < b) then e else b
def stepN (N : Net) (row was : List Int) (s : List Int × Int) (i : Nat) : List Int × Int :=
  (s.1.set i (valN (opAt N i) row s.1 was).1, leastE s.2 (valN (opAt N i) row s.1 was).2)
def instN (N : Net) (row was : List Int) : List Int × Int := (orderN N).foldl (stepN N row was) (List.replicate N.ops.length 0, 0)
def frameB (tys row : List Int) : Bool := decide (row.length = tys.length) && (List.range row.length).all fun i => fitsI (row.getD i 0) && !(tys.getD i 0 == 1 && row.getD i 0 != 0 && row.getD i 0 != 1)
def rowN (N : Net) (v : List Int) : List Int := N.roots.map (at0 v)
/-- From an instant on. -/
def goN (N : Net) : List (List Int) → List Int → List (List Int) → List (List Int) × Int
  | [], was, out => (out, 0)
  | row :: r, was, out => if frameB N.ins row = false then (out, 17) else if (instN N row was).2 ≠ 0 then (out, (instN N row was).2) else goN N r (instN N row was).1 (out ++ [rowN N (instN N row was).1])
def runN (N : Net) (l : List (List Int)) : List (List Int) × Int := if checkN N ≠ 0 then ([], checkN N) else goN N l [] []

/-! ### Instructions -/
structure Ins6 where
  op : Int
  d : Int
  a : Int
  b : Int
  c : Int
  n : Int
deriving DecidableEq, Inhabited
structure Cod where
  ins : List Ins6
  regs : Int
  slots : Int
  outs : List Int
  inp : List Int
deriving DecidableEq, Inhabited
/-- How many registers an instruction reads. -/
def nrd (op : Int) : Int := if op = 1 ∨ op = 2 ∨ op = 3 ∨ op = 21 then 0 else if op = 30 then 1 else if op = 19 then 2 else opnd op
def readsI (x : Ins6) : List Int := [x.a, x.b, x.c].take (nrd x.op).toNat
def numB (nin : Nat) (slots : Int) (x : Ins6) : Bool :=
  if x.op = 3 then decide (0 ≤ x.n) && decide (x.n < (nin : Int)) else if x.op = 1 then fitsI x.n else if x.op = 2 then decide (0 ≤ x.n) && decide (x.n < 2)
  else if x.op = 21 ∨ x.op = 30 then decide (0 ≤ x.n) && decide (x.n < slots) else x.n == 0
def restB (x : Ins6) : Bool := ([x.a, x.b, x.c].drop (nrd x.op).toNat).all (· == 0)
/-- May it stand behind those that have written these registers, and stored into these slots? -/
def okI (nin : Nat) (regs slots : Int) (s : List Int × List Int) (x : Ins6) : Bool :=
  decide (0 ≤ nrd x.op) && restB x && numB nin slots x && (readsI x).all (fun k => s.1.contains k)
    && (if x.op = 30 then x.d == 0 && !s.2.contains x.n else !(x.op == 21 && !s.2.isEmpty) && decide (0 ≤ x.d) && decide (x.d < regs))
def goneI (s : List Int × List Int) (x : Ins6) : List Int × List Int := if x.op = 30 then (s.1, s.2 ++ [x.n]) else (s.1 ++ [x.d], s.2)
def goK (nin : Nat) (regs slots : Int) : List Ins6 → List Int × List Int → Option (List Int × List Int)
  | [], s => some s
  | x :: r, s => if okI nin regs slots s x then goK nin regs slots r (goneI s x) else none
def sizedB (c : Cod) : Bool := decide (0 ≤ c.regs) && decide (c.regs ≤ 100000) && decide (0 ≤ c.slots) && decide (c.slots ≤ 100000) && decide (c.ins.length ≤ 200000)
def checkK (c : Cod) : Int :=
  if sizedB c = false then 1 else match goK c.inp.length c.regs c.slots c.ins ([], []) with
    | none => 1
    | some s => if c.outs.all (fun k => s.1.contains k) then 0 else 1
/-- What an instruction makes. -/
def madeK (x : Ins6) (row r slots : List Int) (first : Bool) : Int × Int :=
  if x.op = 3 then (at0 row x.n, 0) else if x.op = 1 ∨ x.op = 2 then (x.n, 0)
  else if x.op = 21 then (at0 slots x.n, 0)
  else if x.op = 19 then (if first then at0 r x.a else at0 r x.b, 0)
  else doN x.op (arg (readsI x) r 0) (arg (readsI x) r 1) (arg (readsI x) r 2)
structure Reg where
  r : List Int
  next : List Int
  least : Int
def stepK (row slots : List Int) (first : Bool) (s : Reg) (x : Ins6) : Reg :=
  if x.op = 30 then ⟨s.r, s.next.set x.n.toNat (at0 s.r x.a), s.least⟩
  else ⟨s.r.set x.d.toNat (madeK x row s.r slots first).1, s.next, leastE s.least (madeK x row s.r slots first).2⟩
def instK (c : Cod) (row slots : List Int) (first : Bool) : Reg := c.ins.foldl (stepK row slots first) ⟨List.replicate c.regs.toNat 0, slots, 0⟩
def rowK (c : Cod) (r : List Int) : List Int := c.outs.map (at0 r)
/-- An instant: what is told, the slots behind it, the error. -/
def tellK (c : Cod) (row slots : List Int) (first : Bool) : List Int × List Int × Int :=
  if frameB c.inp row = false then ([], slots, 17) else if (instK c row slots first).least ≠ 0 then ([], slots, (instK c row slots first).least)
  else (rowK c (instK c row slots first).r, (instK c row slots first).next, 0)
def goR (c : Cod) : List (List Int) → List Int → Bool → List (List Int) → List (List Int) × Int
  | [], slots, first, out => (out, 0)
  | row :: r, slots, first, out => if (tellK c row slots first).2.2 ≠ 0 then (out, (tellK c row slots first).2.2) else goR c r (tellK c row slots first).2.1 false (out ++ [(tellK c row slots first).1])
def runK (c : Cod) (l : List (List Int)) : List (List Int) × Int := if checkK c ≠ 0 then ([], checkK c) else goR c l (List.replicate c.slots.toNat 0) true []

/-! ### Instructions of a net -/
structure Mk where
  ins : List Ins6
  regs : Nat
  slots : Nat
  loc : List Int
  free : List Int
  ends : List Int
def regI (loc : List Int) (k : Int) : Int := if k < 0 then 0 else at0 loc k
def leave1 (i : Nat) (loc : List Int) (s : List Int × List Int) (k : Int) : List Int × List Int :=
  if 0 ≤ k ∧ at0 s.2 k = (i : Int) then (s.1 ++ [at0 loc k], s.2.set k.toNat (-2)) else s
def leave3 (i : Nat) (loc : List Int) (s : List Int × List Int) (l : List Int) : List Int × List Int := l.foldl (leave1 i loc) s
/-- A register that is free; how many there are then; which are free. -/
def takeM (regs : Nat) (free : List Int) : Int × Nat × List Int := if free.length = 0 then ((regs : Int), regs + 1, free) else (free.getD (free.length - 1) 0, regs, free.take (free.length - 1))
def layM (i : Nat) (o : Op5) (m : Mk) : Mk :=
  let s := if o.op = 21 then (m.free, m.ends) else leave3 i m.loc (m.free, m.ends) [o.a, o.b, o.c]
  let t := takeM m.regs s.1
  { ins := m.ins ++ [if o.op = 21 then ⟨o.op, t.1, 0, 0, 0, (m.slots : Int)⟩ else ⟨o.op, t.1, regI m.loc o.a, regI m.loc o.b, regI m.loc o.c, o.n⟩]
    regs := t.2.1
    slots := if o.op = 21 then m.slots + 1 else m.slots
    loc := m.loc ++ [t.1]
    free := if at0 s.2 (i : Int) = -1 then t.2.2 ++ [t.1] else t.2.2
    ends := s.2 }
def endsT (N : Net) (told : List Int) : List Int := told.foldl (fun e i => e.set (at0 N.roots i).toNat (-2)) (endsN N)
def endsP (N : Net) (told : List Int) : List Int := N.ops.foldl (fun e o => if o.op = 21 then e.set o.a.toNat (-2) else e) (endsT N told)
def mk0 (N : Net) (told : List Int) : Mk := ⟨[], 0, 0, [], [], endsP N told⟩
def layN (N : Net) (told : List Int) (i : Nat) : Mk := (List.range i).foldl (fun m j => layM j (opAt N j) m) (mk0 N told)
/-- The slots' instructions, of the operators so far. -/
def stores (loc : List Int) : List Op5 → Nat → List Ins6
  | [], _ => []
  | o :: r, s => if o.op = 21 then ⟨30, 0, at0 loc o.a, 0, 0, (s : Int)⟩ :: stores loc r (s + 1) else stores loc r s
/-- Of a net in order. -/
def codeN (N : Net) (told : List Int) : Cod :=
  let m := layN N told N.ops.length
  ⟨m.ins ++ stores m.loc N.ops 0, (m.regs : Int), (m.slots : Int), told.map fun i => at0 m.loc (at0 N.roots i), N.ins⟩
def toldB (N : Net) (told : List Int) : Bool := told.all (isOp N.roots.length)
def faultC (N : Net) (told : List Int) : Int := if checkN N ≠ 0 then checkN N else if toldB N told = false then 1 else 0
def emptyC : Cod := ⟨[], 0, 0, [], []⟩
def makeC (N : Net) (told : List Int) : Cod := if faultC N told = 0 then codeN (sortedN N) told else emptyC
end Go.Proofs.Ytcphjehjdhgheaa.Nt
