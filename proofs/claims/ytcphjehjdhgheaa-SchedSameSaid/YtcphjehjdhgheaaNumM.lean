/- What the operators of layer num make of numbers, as plain functions on integers. Conditions: none. -/
namespace Go.Proofs.Ytcphjehjdhgheaa.Num

/-- Whether a number has 32 bits. -/
def fitB (n : Int) : Bool := decide (-2147483648 ≤ n ∧ n ≤ 2147483647)
theorem fit_yes {n : Int} (h : -2147483648 ≤ n ∧ n ≤ 2147483647) : fitB n = true := by simp [fitB, h]
theorem fit_no {n : Int} (h : ¬ (-2147483648 ≤ n ∧ n ≤ 2147483647)) : fitB n = false := by simp [fitB, h]
theorem fit_iff {n : Int} : fitB n = true ↔ (-2147483648 ≤ n ∧ n ≤ 2147483647) := by simp [fitB]

/-- How many operands an operator takes. -/
def opN (op : Int) : Int := if op = 26 then 3 else if 6 ≤ op ∧ op ≤ 18 then 2 else if op = 4 ∨ op = 5 then 1 else -1

/-- Whether all operands fit. -/
def takenB (n a b c : Int) : Bool := (n == 3 && fitB c && fitB b && fitB a) || (n == 2 && fitB b && fitB a) || (n == 1 && fitB a)

def bn (b : Bool) : Int := if b then 1 else 0

/-- A number and no error if it fits; else 0 and error 2. -/
def over (n : Int) : Int × Int := if fitB n then (n, 0) else (0, 2)

/-- What the operators that reckon make. -/
def reck (op a b : Int) : Int × Int :=
  if b = 0 ∧ (op = 17 ∨ op = 18) then (0, 3)
  else over (if op = 5 then -a else if op = 15 then a - b else if op = 14 then a + b else if op = 16 then a * b else if op = 17 then a.tdiv b else if op = 18 then a.tmod b else a)

def cmpB (op a b : Int) : Bool := if op = 10 then a == b else if op = 11 then a != b else if op = 12 then decide (a < b) else decide (a ≤ b)

def joinB (op : Int) (a b : Bool) : Bool :=
  if op = 9 then !a || b else if op = 7 then a || b else if op = 4 then !a else if op = 8 then a != b else a && b

/-- What an operator makes of its operands. -/
def doN (op a b c : Int) : Int × Int :=
  if takenB (opN op) a b c = false then (0, 1)
  else if op = 26 then (if a ≠ 0 then b else c, 0)
  else if op = 5 ∨ op = 14 ∨ op = 15 ∨ op = 16 ∨ op = 17 ∨ op = 18 then reck op a b
  else if op = 10 ∨ op = 11 ∨ op = 12 ∨ op = 13 then (bn (cmpB op a b), 0)
  else (bn (joinB op (a != 0) (b != 0)), 0)
end Go.Proofs.Ytcphjehjdhgheaa.Num
