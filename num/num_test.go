package num_test

import (
	"math"
	"math/big"
	"math/rand"
	"slices"
	"testing"

	"bailment/api"
	"bailment/num"
)

const least, most = -1 << 31, 1<<31 - 1

var (
	ones   = []int{api.OpNot, api.OpNeg}
	twos   = []int{api.OpAnd, api.OpOr, api.OpXor, api.OpImp, api.OpEq, api.OpNe, api.OpLt, api.OpLe, api.OpAdd, api.OpSub, api.OpMul, api.OpDiv, api.OpMod}
	threes = []int{api.OpIf}
	others = []int{math.MinInt, -1, 0, api.OpNum, api.OpBool, api.OpVar, api.OpArrow, api.OpSince, api.OpPre, api.OpOnce, api.OpHist, api.OpPrev, api.OpWithin, api.OpCall, api.OpArgs, 29, 30, 31, 1 << 32, math.MaxInt}
	edges  = []int{least, least + 1, -1 << 30, -65537, -65536, -46341, -46340, -7, -3, -2, -1, 0, 1, 2, 3, 7, 46340, 46341, 65535, 65536, 1 << 30, most - 1, most}
	beyond = []int{least - 1, most + 1, -1 << 32, 1 << 32, 1<<32 + 1, math.MinInt, math.MaxInt}
)

func TestFits(t *testing.T) {
	for _, n := range edges {
		if !num.Fits(n) {
			t.Errorf("P1.1: %d does not fit", n)
		}
	}
	for _, n := range beyond {
		if num.Fits(n) {
			t.Errorf("P1.1: %d fits", n)
		}
	}
}

func TestOperands(t *testing.T) {
	for want, ops := range map[int][]int{1: ones, 2: twos, 3: threes, -1: others} {
		for _, op := range ops {
			if n := num.Operands(op); n != want {
				t.Errorf("P1.1: operator %d takes %d, not %d", op, n, want)
			}
		}
	}
	for op := api.OpNum; op <= api.OpArgs; op++ {
		if n := len(slices.DeleteFunc(slices.Concat(ones, twos, threes, others), func(o int) bool { return o != op })); n != 1 {
			t.Errorf("operator %d stands in %d of the lists", op, n)
		}
	}
}

func number(b bool) *big.Int {
	if b {
		return big.NewInt(1)
	}
	return new(big.Int)
}

// said is what P1.2 says of operands that fit, in numbers without an end.
func said(op, a, b, c int) (*big.Int, api.Errno) {
	x, y := big.NewInt(int64(a)), big.NewInt(int64(b))
	n := new(big.Int)
	switch op {
	case api.OpNot:
		n = number(a == 0)
	case api.OpAnd:
		n = number(a != 0 && b != 0)
	case api.OpOr:
		n = number(a != 0 || b != 0)
	case api.OpXor:
		n = number(a != 0 && b == 0 || a == 0 && b != 0)
	case api.OpImp:
		n = number(a == 0 || b != 0)
	case api.OpEq:
		n = number(x.Cmp(y) == 0)
	case api.OpNe:
		n = number(x.Cmp(y) != 0)
	case api.OpLt:
		n = number(x.Cmp(y) < 0)
	case api.OpLe:
		n = number(x.Cmp(y) <= 0)
	case api.OpNeg:
		n.Neg(x)
	case api.OpAdd:
		n.Add(x, y)
	case api.OpSub:
		n.Sub(x, y)
	case api.OpMul:
		n.Mul(x, y)
	case api.OpDiv, api.OpMod:
		if b == 0 {
			return n, api.ErrZero
		}
		if op == api.OpDiv {
			n.Quo(x, y)
		} else {
			n.Rem(x, y)
		}
	case api.OpIf:
		if n.SetInt64(int64(c)); a != 0 {
			n = y
		}
	}
	if n.Cmp(big.NewInt(least)) < 0 || n.Cmp(big.NewInt(most)) > 0 {
		return new(big.Int), api.ErrOver
	}
	return n, api.OK
}

func compare(t *testing.T, op, a, b, c int) {
	t.Helper()
	n, e := num.Do(op, a, b, c)
	if want, wantE := said(op, a, b, c); e != wantE || int64(n) != want.Int64() {
		t.Errorf("P1.2: operator %d of %d, %d, %d: %d, %d; not %d, %d", op, a, b, c, n, e, want, wantE)
	}
	if !num.Fits(n) || e != api.OK && n != 0 {
		t.Errorf("P1.3: operator %d of %d, %d, %d: %d, %d", op, a, b, c, n, e)
	}
	if n2, e2 := num.Do(op, a, b, c); n2 != n || e2 != e {
		t.Errorf("R6: operator %d of %d, %d, %d: %d, %d, then %d, %d", op, a, b, c, n, e, n2, e2)
	}
}

func TestDo(t *testing.T) {
	for _, op := range slices.Concat(ones, twos, threes) {
		for _, a := range edges {
			for _, b := range edges {
				for _, c := range []int{least, 0, 5, most} {
					compare(t, op, a, b, c)
				}
			}
		}
	}
	r := rand.New(rand.NewSource(1))
	some := func() int { return int(int32(r.Uint32())) >> r.Intn(32) }
	for range 100000 {
		compare(t, slices.Concat(ones, twos, threes)[r.Intn(16)], some(), some(), some())
	}
}

func TestDoByHand(t *testing.T) {
	for i, c := range []struct {
		op, a, b, c, want int
		e                 api.Errno
	}{
		{api.OpDiv, -7, 2, 0, -3, api.OK}, {api.OpMod, -7, 2, 0, -1, api.OK},
		{api.OpDiv, least, -1, 0, 0, api.ErrOver}, {api.OpMod, least, -1, 0, 0, api.OK},
		{api.OpDiv, 0, 0, 0, 0, api.ErrZero}, {api.OpMod, least, 0, 0, 0, api.ErrZero},
		{api.OpNeg, least, 0, 0, 0, api.ErrOver}, {api.OpNeg, most, 0, 0, -most, api.OK},
		{api.OpAnd, 2, 4, 0, 1, api.OK}, {api.OpXor, 2, 4, 0, 0, api.OK}, {api.OpImp, 2, -4, 0, 1, api.OK},
		{api.OpNot, least, 0, 0, 0, api.OK}, {api.OpIf, -1, 8, 9, 8, api.OK}, {api.OpIf, 0, 8, 9, 9, api.OK},
	} {
		if n, e := num.Do(c.op, c.a, c.b, c.c); n != c.want || e != c.e {
			t.Errorf("P1.2: case %d: %d, %d", i, n, e)
		}
	}
}

func TestDoArg(t *testing.T) {
	for _, op := range others {
		if n, e := num.Do(op, 1, 1, 1); n != 0 || e != api.ErrArg {
			t.Errorf("P1.2: operator %d: %d, %d", op, n, e)
		}
	}
	for _, op := range slices.Concat(ones, twos, threes) {
		for place := range 3 {
			for _, far := range beyond {
				at := [3]int{6, 3, 2}
				wantN, wantE := num.Do(op, at[0], at[1], at[2])
				if at[place] = far; place < num.Operands(op) {
					wantN, wantE = 0, api.ErrArg
				}
				if n, e := num.Do(op, at[0], at[1], at[2]); n != wantN || e != wantE {
					t.Errorf("P1.2: operator %d of %v: %d, %d; not %d, %d", op, at, n, e, wantN, wantE)
				}
			}
		}
	}
	// ErrArg is named first: ahead of what else is wrong with the same operands.
	for _, op := range []int{api.OpDiv, api.OpMod} {
		if _, e := num.Do(op, most+1, 0, 0); e != api.ErrArg {
			t.Errorf("R2: operator %d: %d", op, e)
		}
	}
}

func TestDivided(t *testing.T) {
	for _, a := range edges {
		for _, b := range edges {
			q, e := num.Do(api.OpDiv, a, b, 0)
			r, e2 := num.Do(api.OpMod, a, b, 0)
			if b == 0 || a == least && b == -1 {
				continue
			}
			p, e3 := num.Do(api.OpMul, q, b, 0)
			n, e4 := num.Do(api.OpAdd, p, r, 0)
			if n != a || e != api.OK || e2 != api.OK || e3 != api.OK || e4 != api.OK {
				t.Errorf("P1.3: %d by %d: %d and %d make %d", a, b, q, r, n)
			}
		}
	}
}
