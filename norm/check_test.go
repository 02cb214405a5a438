package norm_test

import (
	"fmt"
	"math"
	"math/rand"
	"slices"
	"strconv"
	"testing"
	"time"

	"bailment/api"
	"bailment/norm"
)

// o is an operator; fields that hold no operand are -1.
func o(op int, n int, operands ...int) norm.Op {
	fields := [3]int{-1, -1, -1}
	copy(fields[:], operands)
	return norm.Op{Op: op, A: fields[0], B: fields[1], C: fields[2], N: n}
}

// takes is how many operands an operator of a net has; none of another one.
func takes() map[int]int {
	of := map[int]int{api.OpVar: 0, api.OpNum: 0, api.OpBool: 0, api.OpNot: 1, api.OpNeg: 1, api.OpPre: 1, api.OpArrow: 2, api.OpIf: 3}
	for _, op := range []int{api.OpAnd, api.OpOr, api.OpXor, api.OpImp, api.OpEq, api.OpNe, api.OpLt, api.OpLe, api.OpAdd, api.OpSub, api.OpMul, api.OpDiv, api.OpMod} {
		of[op] = 2
	}
	return of
}

// short is the beginning of what a thing is as a text.
func short(x any) string {
	s := fmt.Sprint(x)
	return s[:min(len(s), 800)]
}

func checks(t *testing.T, what string, n norm.Net, want api.Errno) {
	t.Helper()
	before := norm.Net{Ops: slices.Clone(n.Ops), Roots: slices.Clone(n.Roots), Inputs: slices.Clone(n.Inputs)}
	for range 2 {
		if got := norm.Check(n); got != want {
			t.Errorf("P14.1: %s: %s: %d, not %d", what, short(n), got, want)
		}
	}
	if !slices.Equal(n.Ops, before.Ops) || !slices.Equal(n.Roots, before.Roots) || !slices.Equal(n.Inputs, before.Inputs) {
		t.Errorf("R5: %s: %s is changed", what, short(before))
	}
}

// Each operator there is, and those that no net has; each field of it.
func TestEachOperator(t *testing.T) {
	for _, op := range []int{math.MinInt, -1, 0, 1, 2, 3, 4, 5, 6, 7, 8, 9, 10, 11, 12, 13, 14, 15, 16, 17, 18, 19, 20, 21, 22, 23, 24, 25, 26, 27, 28, 29, 30, 31, 1<<32 + api.OpAdd, math.MaxInt} {
		of := func(x norm.Op) norm.Net {
			return norm.Net{Ops: []norm.Op{o(api.OpNum, 5), x, o(api.OpBool, 1), o(api.OpVar, 0)}, Inputs: []int{api.Int}}
		}
		count, known := takes()[op]
		if !known {
			for k := range 4 {
				checks(t, "operator "+strconv.Itoa(op), of(o(op, 0, []int{0, 2, 3}[:k]...)), api.ErrArg)
			}
			continue
		}
		good := o(op, 0, []int{0, 2, 3}[:count]...)
		checks(t, "operator "+strconv.Itoa(op), of(good), api.OK)
		for i := range 3 {
			for _, k := range []int{math.MinInt, -2, -1, 0, 2, 3, 4, 5, 1 << 32, math.MaxInt} {
				x := good
				*[]*int{&x.A, &x.B, &x.C}[i] = k
				want := api.ErrArg
				if i < count && k >= 0 && k < 4 || i >= count && k == -1 {
					want = api.OK
				}
				checks(t, fmt.Sprintf("operator %d, operand %d is %d", op, i, k), of(x), want)
			}
		}
		for _, n := range []int{math.MinInt, -1<<31 - 1, -1 << 31, -5, -1, 1, 2, 5, 1000, 1<<31 - 1, 1 << 31, 1 << 32, math.MaxInt} {
			x := good
			x.N = n
			want := api.ErrArg
			if op == api.OpNum && n >= math.MinInt32 && n <= math.MaxInt32 || op == api.OpBool && n == 1 {
				want = api.OK
			}
			checks(t, fmt.Sprintf("operator %d, number %d", op, n), of(x), want)
		}
	}
}

func TestInputsAndRoots(t *testing.T) {
	ops := []norm.Op{o(api.OpVar, 2), o(api.OpVar, 0), o(api.OpAdd, 0, 0, 1), o(api.OpVar, 2)}
	for inputs := range 5 {
		want := api.ErrArg
		if inputs > 2 {
			want = api.OK
		}
		checks(t, "inputs", norm.Net{Ops: ops, Inputs: make([]int, inputs)}, want)
	}
	checks(t, "types", norm.Net{Ops: ops, Inputs: []int{math.MinInt, -1, math.MaxInt, 7}}, api.OK)
	checks(t, "negative", norm.Net{Ops: []norm.Op{o(api.OpVar, -1)}, Inputs: []int{1}}, api.ErrArg)
	checks(t, "no input", norm.Net{Ops: []norm.Op{o(api.OpVar, 0)}}, api.ErrArg)
	in := []int{1, 1, 1}
	checks(t, "roots", norm.Net{Ops: ops, Roots: []int{3, 0, 0, 1, 2, 3, 3, 3}, Inputs: in}, api.OK)
	for _, k := range []int{math.MinInt, -1, 4, 5, 1 << 32, math.MaxInt} {
		for at := range 3 {
			checks(t, "roots", norm.Net{Ops: ops, Roots: slices.Insert([]int{3, 0}, at, k), Inputs: in}, api.ErrArg)
		}
	}
	checks(t, "nothing", norm.Net{}, api.OK)
	checks(t, "inputs alone", norm.Net{Inputs: in}, api.OK)
	checks(t, "roots alone", norm.Net{Roots: []int{0}}, api.ErrArg)
	checks(t, "empty", norm.Net{Ops: []norm.Op{}, Roots: []int{}, Inputs: []int{}}, api.OK)
	checks(t, "many roots", norm.Net{Ops: ops, Roots: make([]int, 300000), Inputs: in}, api.OK)
	checks(t, "zero operator", norm.Net{Ops: []norm.Op{{}}}, api.ErrArg)
}

func TestRound(t *testing.T) {
	one, not, pre, arrow := o(api.OpNum, 1), api.OpNot, api.OpPre, api.OpArrow
	for what, c := range map[string]struct {
		ops  []norm.Op
		want api.Errno
	}{
		"itself":                       {[]norm.Op{o(not, 0, 0)}, api.ErrCycle},
		"left one":                     {[]norm.Op{o(api.OpAdd, 0, 0, 1), one}, api.ErrCycle},
		"right one":                    {[]norm.Op{o(api.OpAdd, 0, 1, 0), one}, api.ErrCycle},
		"first of three":               {[]norm.Op{one, o(api.OpIf, 0, 1, 0, 0)}, api.ErrCycle},
		"second of three":              {[]norm.Op{one, o(api.OpIf, 0, 0, 1, 0)}, api.ErrCycle},
		"third of three":               {[]norm.Op{one, o(api.OpIf, 0, 0, 0, 1)}, api.ErrCycle},
		"arrow's left":                 {[]norm.Op{one, o(arrow, 0, 1, 0)}, api.ErrCycle},
		"arrow's right":                {[]norm.Op{one, o(arrow, 0, 0, 1)}, api.ErrCycle},
		"pre":                          {[]norm.Op{o(pre, 0, 0)}, api.OK},
		"pre behind":                   {[]norm.Op{o(pre, 0, 1), o(not, 0, 0)}, api.OK},
		"pre ahead":                    {[]norm.Op{o(not, 0, 1), o(pre, 0, 0)}, api.OK},
		"two pres":                     {[]norm.Op{o(pre, 0, 1), o(pre, 0, 0)}, api.OK},
		"two":                          {[]norm.Op{o(not, 0, 1), o(not, 0, 0)}, api.ErrCycle},
		"three":                        {[]norm.Op{o(not, 0, 1), o(not, 0, 2), o(not, 0, 0)}, api.ErrCycle},
		"three, turned":                {[]norm.Op{o(not, 0, 2), o(not, 0, 0), o(not, 0, 1)}, api.ErrCycle},
		"behind":                       {[]norm.Op{one, o(not, 0, 0), o(not, 0, 3), o(not, 0, 2)}, api.ErrCycle},
		"beside":                       {[]norm.Op{o(not, 0, 1), o(not, 0, 2), o(not, 0, 2)}, api.ErrCycle},
		"beside a pre":                 {[]norm.Op{o(api.OpAnd, 0, 1, 2), o(pre, 0, 0), o(not, 0, 0)}, api.ErrCycle},
		"under a pre":                  {[]norm.Op{o(pre, 0, 1), o(not, 0, 2), o(not, 0, 1)}, api.ErrCycle},
		"itself under a pre":           {[]norm.Op{o(pre, 0, 1), o(not, 0, 1)}, api.ErrCycle},
		"backwards":                    {[]norm.Op{o(not, 0, 1), o(not, 0, 2), o(not, 0, 3), one}, api.OK},
		"shared":                       {[]norm.Op{o(api.OpAdd, 0, 1, 2), o(api.OpAdd, 0, 2, 2), o(api.OpAdd, 0, 3, 3), one}, api.OK},
		"shared, and back":             {[]norm.Op{o(api.OpAdd, 0, 1, 2), o(api.OpAdd, 0, 2, 2), o(api.OpAdd, 0, 3, 3), o(api.OpNeg, 0, 1)}, api.ErrCycle},
		"counter":                      {[]norm.Op{one, o(api.OpNum, 0), o(pre, 0, 4), o(api.OpAdd, 0, 2, 0), o(arrow, 0, 1, 3)}, api.OK},
		"arrow is no pre":              {[]norm.Op{one, o(api.OpAdd, 0, 2, 0), o(arrow, 0, 0, 1)}, api.ErrCycle},
		"may not be, and round":        {[]norm.Op{o(not, 0, 0), o(not, 0, 2)}, api.ErrArg},
		"may not be, ahead of a round": {[]norm.Op{o(not, 1, 1), o(not, 0, 1)}, api.ErrArg},
	} {
		checks(t, what, norm.Net{Ops: c.ops}, c.want)
		// Whatever is told, and whatever the inputs are.
		checks(t, what, norm.Net{Ops: c.ops, Roots: []int{0, len(c.ops) - 1}, Inputs: []int{1, 2}}, c.want)
		checks(t, what, norm.Net{Ops: c.ops, Roots: []int{len(c.ops)}}, api.ErrArg)
	}
}

// As many operators as there may be: in a row to the front or to the back,
// shared again and again, and round.
func TestMany(t *testing.T) {
	began := time.Now()
	const most = 100000
	rows := map[string]func(i int) norm.Op{
		"numbers": func(i int) norm.Op { return o(api.OpNum, i) },
		"front": func(i int) norm.Op {
			if i == 0 {
				return o(api.OpNum, 0)
			}
			return o(api.OpNot, 0, i-1)
		},
		"shared": func(i int) norm.Op {
			if i == 0 {
				return o(api.OpNum, 0)
			}
			return o(api.OpAdd, 0, i-1, i-1)
		},
		"pres": func(i int) norm.Op { return o(api.OpPre, 0, most-1-i) },
	}
	for what, row := range rows {
		var ops []norm.Op
		for i := range most + 1 {
			ops = append(ops, row(i))
		}
		checks(t, what, norm.Net{Ops: ops[:most], Roots: []int{most - 1}}, api.OK)
		checks(t, what, norm.Net{Ops: ops[:most], Roots: []int{most}}, api.ErrArg)
		checks(t, what, norm.Net{Ops: ops}, api.ErrArg)
		ops[0] = o(api.OpNot, 0, most-1)
		want := api.OK
		if what == "front" || what == "shared" {
			want = api.ErrCycle
		}
		checks(t, what+" that begin at the end", norm.Net{Ops: ops[:most]}, want)
		checks(t, what+" that begin at the end", norm.Net{Ops: ops}, api.ErrArg)
	}
	ops := make([]norm.Op, most)
	for i := range ops {
		ops[i] = o(api.OpIf, 0, min(i+1, most-1), min(i+2, most-1), min(i+3, most-1))
	}
	checks(t, "back, round at its end", norm.Net{Ops: ops}, api.ErrCycle)
	ops[most-1] = o(api.OpPre, 0, 0)
	checks(t, "back", norm.Net{Ops: ops}, api.OK)
	if took := time.Since(began); took > time.Minute {
		t.Errorf("%v", took)
	}
}

// checked is what P14.1 says, told in another way: what an operator needs is
// a table that is closed step by step.
func checked(n norm.Net) api.Errno {
	size := len(n.Ops)
	isOp := func(k int) bool { return k >= 0 && k < size }
	reach := make([][]bool, size)
	for i, x := range n.Ops {
		reach[i] = make([]bool, size)
		count, known := takes()[x.Op]
		if !known || x.N < math.MinInt32 || x.N > math.MaxInt32 || x.Op != api.OpVar && x.Op != api.OpNum && x.Op != api.OpBool && x.N != 0 || x.Op == api.OpBool && x.N != 0 && x.N != 1 || x.Op == api.OpVar && (x.N < 0 || x.N >= len(n.Inputs)) {
			return api.ErrArg
		}
		for k, operand := range []int{x.A, x.B, x.C} {
			if k < count && !isOp(operand) || k >= count && operand != -1 {
				return api.ErrArg
			}
			if k < count && x.Op != api.OpPre {
				reach[i][operand] = true
			}
		}
	}
	for _, k := range n.Roots {
		if !isOp(k) {
			return api.ErrArg
		}
	}
	for k := range size {
		for i := range size {
			for j := range size {
				reach[i][j] = reach[i][j] || reach[i][k] && reach[k][j]
			}
		}
	}
	for i := range size {
		if reach[i][i] {
			return api.ErrCycle
		}
	}
	return api.OK
}

func TestManyNets(t *testing.T) {
	r := rand.New(rand.NewSource(141))
	seen := map[api.Errno]int{}
	for range 100000 {
		n := norm.Net{Inputs: make([]int, r.Intn(3))}
		size := r.Intn(9)
		for range size {
			op := 1 + r.Intn(26)
			count, known := takes()[op]
			if !known && r.Intn(40) > 0 {
				op, count = api.OpPre, 1
			}
			x := o(op, 0, []int{r.Intn(size), r.Intn(size), r.Intn(size)}[:count]...)
			switch op {
			case api.OpVar:
				x.N = r.Intn(max(len(n.Inputs), 1))
			case api.OpNum, api.OpBool:
				x.N = r.Intn(2)
			}
			if r.Intn(100) == 0 {
				*[]*int{&x.A, &x.B, &x.C, &x.N}[r.Intn(4)] = []int{-2, -1, 0, 1, size, math.MaxInt, math.MinInt}[r.Intn(7)]
			}
			n.Ops = append(n.Ops, x)
		}
		for range r.Intn(3) {
			n.Roots = append(n.Roots, r.Intn(max(size, 1)))
		}
		want := checked(n)
		checks(t, "some", n, want)
		if t.Failed() {
			return
		}
		seen[want]++
	}
	if seen[api.OK] < 10000 || seen[api.ErrArg] < 10000 || seen[api.ErrCycle] < 10000 {
		t.Error(seen)
	}
}
