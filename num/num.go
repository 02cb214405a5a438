// Package num is layer 1, what operators make of numbers: see shared/doc/01-num.md.
package num

import "bailment/api"

// Do is what an operator makes of its operands.
func Do(op int, a int, b int, c int) (int, api.Errno) {
	if !taken(Operands(op), a, b, c) {
		return 0, api.ErrArg
	}
	switch op {
	case api.OpIf:
		if a != 0 {
			return b, api.OK
		}
		return c, api.OK
	case api.OpNeg, api.OpAdd, api.OpSub, api.OpMul, api.OpDiv, api.OpMod:
		return reckoned(op, int64(a), int64(b))
	case api.OpEq, api.OpNe, api.OpLt, api.OpLe:
		return number(compared(op, a, b)), api.OK
	}
	return number(joined(op, a != 0, b != 0)), api.OK
}

// Fits tells whether a number has 32 bits.
func Fits(n int) bool { return fits(int64(n)) }

// fits takes 64 bits, so that it can also tell of what does not fit yet.
func fits(n int64) bool { return n == int64(int32(n)) }

// Operands is how many an operator takes; -1: it makes nothing of numbers.
func Operands(op int) int {
	n := 0
	switch op {
	case api.OpIf:
		n++
		fallthrough
	case api.OpAnd, api.OpOr, api.OpXor, api.OpImp, api.OpEq, api.OpNe, api.OpLt, api.OpLe,
		api.OpAdd, api.OpSub, api.OpMul, api.OpDiv, api.OpMod:
		n++
		fallthrough
	case api.OpNot, api.OpNeg:
		n++
		return n
	}
	return -1
}

// taken tells whether an operator may take its n operands. Those behind them
// are not looked at: an operator that does not take them must not mind them.
func taken(n int, a int, b int, c int) bool {
	all := true
	switch n {
	case 3:
		all = Fits(c)
		fallthrough
	case 2:
		all = all && Fits(b)
		fallthrough
	case 1:
		return all && Fits(a)
	}
	return false
}

// reckoned has 64 bits for all between: of two numbers that fit nothing here
// goes beyond them, the least one through -1 neither.
func reckoned(op int, a int64, b int64) (int, api.Errno) {
	if b == 0 && (op == api.OpDiv || op == api.OpMod) {
		return 0, api.ErrZero
	}
	switch op {
	case api.OpNeg:
		a, b = 0, a
		fallthrough
	case api.OpSub:
		b = -b
		fallthrough
	case api.OpAdd:
		a += b
	case api.OpMul:
		a *= b
	case api.OpDiv:
		a /= b
	case api.OpMod:
		a %= b
	}
	if !fits(a) {
		return 0, api.ErrOver
	}
	return int(a), api.OK
}

// compared is one of Eq, Ne, Lt and Le.
func compared(op int, a int, b int) bool {
	switch op {
	case api.OpEq:
		return a == b
	case api.OpNe:
		return a != b
	case api.OpLt:
		return a < b
	}
	return a <= b
}

// joined is one of Not, And, Or, Xor and Imp. An operator that another one
// can tell, once an operand is changed, falls through to that.
func joined(op int, a bool, b bool) bool {
	switch op {
	case api.OpImp:
		a = !a
		fallthrough
	case api.OpOr:
		return a || b
	case api.OpNot:
		b = true
		fallthrough
	case api.OpXor:
		return a != b
	}
	return a && b
}

func number(b bool) int {
	if b {
		return 1
	}
	return 0
}
