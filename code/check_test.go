package code_test

import (
	"fmt"
	"math"
	"math/rand"
	"slices"
	"strconv"
	"strings"
	"testing"
	"time"

	"bailment/api"
	"bailment/code"
)

// named are the fields that an instruction names, by its Op.
func named() map[int]string {
	of := map[int]string{api.OpVar: "DN", api.OpNum: "DN", api.OpBool: "DN", api.OpNot: "DA", api.OpNeg: "DA", api.OpIf: "DABC", api.OpArrow: "DAB", api.OpPre: "DN", code.OpStore: "AN"}
	for _, op := range []int{api.OpAnd, api.OpOr, api.OpXor, api.OpImp, api.OpEq, api.OpNe, api.OpLt, api.OpLe, api.OpAdd, api.OpSub, api.OpMul, api.OpDiv, api.OpMod} {
		of[op] = "DAB"
	}
	return of
}

// field is one of an instruction's, by its letter.
func field(x *code.Ins, letter rune) *int {
	return map[rune]*int{'D': &x.D, 'A': &x.A, 'B': &x.B, 'C': &x.C, 'N': &x.N}[letter]
}

// short is the beginning of what a thing is as a text.
func short(x any) string {
	s := fmt.Sprint(x)
	return s[:min(len(s), 800)]
}

func copied(c code.Code) code.Code {
	c.Ins, c.Outs, c.Inputs = slices.Clone(c.Ins), slices.Clone(c.Outs), slices.Clone(c.Inputs)
	return c
}

func same(a, b code.Code) bool {
	return a.Regs == b.Regs && a.Slots == b.Slots && slices.Equal(a.Ins, b.Ins) && slices.Equal(a.Outs, b.Outs) && slices.Equal(a.Inputs, b.Inputs)
}

func checks(t *testing.T, what string, c code.Code, may bool) {
	t.Helper()
	want := api.ErrArg
	if may {
		want = api.OK
	}
	before := copied(c)
	for range 2 {
		if got := code.Check(c); got != want {
			t.Errorf("P16.1: %s: %s: %d, not %d", what, short(c), got, want)
		}
	}
	if !same(c, before) {
		t.Errorf("R5: %s: %s is changed", what, short(before))
	}
}

// Each Op there is, and those that no code has; each field of it.
func TestCheckEachOp(t *testing.T) {
	odd := []int{math.MinInt, -1<<31 - 1, -1 << 31, -2, -1, 0, 1, 2, 3, 4, 5, 6, 7, 1<<31 - 1, 1 << 31, 1 << 32, math.MaxInt}
	for _, op := range append(slices.Clone(odd), 8, 9, 10, 11, 12, 13, 14, 15, 16, 17, 18, 19, 20, 21, 22, 23, 24, 25, 26, 27, 28, 29, 30, 31, 32, 1<<32+api.OpAdd) {
		// Registers 0 and 2 are written, 1, 3 and 4 not; of six inputs and three slots.
		of := func(x code.Ins) code.Code {
			return code.Code{Regs: 5, Slots: 3, Inputs: make([]int, 6), Ins: []code.Ins{{Op: api.OpNum, D: 0, N: 7}, {Op: api.OpBool, D: 2}, x, {Op: api.OpNum, D: 1, N: 7}, {Op: api.OpNum, D: 3, N: 7}}}
		}
		fields, known := named()[op]
		if !known {
			for _, k := range []int{0, 2} {
				for mask := range 32 {
					x := code.Ins{Op: op}
					for i, letter := range "DABCN" {
						*field(&x, letter) = mask >> i & 1 * k
					}
					checks(t, "operator "+strconv.Itoa(op), of(x), false)
				}
			}
			continue
		}
		checks(t, "operator "+strconv.Itoa(op), of(code.Ins{Op: op}), true)
		for _, letter := range "DABCN" {
			for _, k := range odd {
				x := code.Ins{Op: op}
				*field(&x, letter) = k
				may := k == 0
				if strings.ContainsRune(fields, letter) {
					switch letter {
					case 'D':
						may = k >= 0 && k < 5
					case 'N':
						may = map[int]bool{api.OpVar: k >= 0 && k < 6, api.OpNum: k >= -1<<31 && k < 1<<31, api.OpBool: k == 0 || k == 1, api.OpPre: k >= 0 && k < 3, code.OpStore: k >= 0 && k < 3}[op]
					default:
						may = k == 0 || k == 2
					}
				}
				checks(t, fmt.Sprintf("operator %d, %c is %d", op, letter, k), of(x), may)
			}
		}
	}
}

// An instruction reads what one ahead of it has written.
func TestCheckRegisters(t *testing.T) {
	num := func(d int) code.Ins { return code.Ins{Op: api.OpNum, D: d, N: 1} }
	not := func(d, a int) code.Ins { return code.Ins{Op: api.OpNot, D: d, A: a} }
	for what, c := range map[string]struct {
		ins []code.Ins
		may bool
	}{
		"nothing is written":         {[]code.Ins{not(0, 0)}, false},
		"its own":                    {[]code.Ins{num(0), not(1, 1)}, false},
		"its own, written ahead":     {[]code.Ins{num(0), not(0, 0)}, true},
		"behind":                     {[]code.Ins{num(0), not(1, 2), num(2)}, false},
		"the one ahead":              {[]code.Ins{num(2), not(1, 2), not(0, 1)}, true},
		"another one":                {[]code.Ins{num(2), not(1, 0)}, false},
		"far ahead":                  {[]code.Ins{num(2), num(1), num(0), num(1), not(0, 2)}, true},
		"written again":              {[]code.Ins{num(0), num(0), num(0)}, true},
		"an operator has written":    {[]code.Ins{num(0), not(2, 0), not(1, 2)}, true},
		"an Arrow":                   {[]code.Ins{num(0), num(1), {Op: api.OpArrow, D: 2, A: 0, B: 1}}, true},
		"an Arrow's left":            {[]code.Ins{num(1), {Op: api.OpArrow, D: 2, A: 0, B: 1}}, false},
		"an Arrow's right":           {[]code.Ins{num(0), {Op: api.OpArrow, D: 2, A: 0, B: 1}}, false},
		"a Store":                    {[]code.Ins{num(1), {Op: code.OpStore, A: 1}}, true},
		"a Store of nothing":         {[]code.Ins{num(1), {Op: code.OpStore}}, false},
		"a Store writes no register": {[]code.Ins{num(1), {Op: code.OpStore, A: 1}, not(1, 0)}, false},
		"a Pre writes one":           {[]code.Ins{{Op: api.OpPre, D: 1}, not(0, 1)}, true},
		"a Pre reads none":           {[]code.Ins{{Op: api.OpPre, D: 1, A: 1}}, false},
		"a Var writes one":           {[]code.Ins{{Op: api.OpVar, D: 2}, not(0, 2)}, true},
		"a Bool writes one":          {[]code.Ins{{Op: api.OpBool, D: 2}, not(0, 2)}, true},
		"behind a Store":             {[]code.Ins{num(1), {Op: code.OpStore, A: 1}, not(2, 1), num(0)}, true},
	} {
		checks(t, what, code.Code{Ins: c.ins, Regs: 3, Slots: 1, Inputs: []int{api.Int}}, c.may)
		checks(t, what, code.Code{Ins: c.ins, Regs: 2, Slots: 1, Inputs: []int{api.Int}}, c.may && most(c.ins) < 2)
	}
}

// most is the greatest register that is written.
func most(l []code.Ins) int {
	r := 0
	for _, x := range l {
		r = max(r, x.D)
	}
	return r
}

// No Pre stands behind a Store, of whatever slot; each slot has at most one Store.
func TestCheckSlots(t *testing.T) {
	num := code.Ins{Op: api.OpNum}
	pre := func(n int) code.Ins { return code.Ins{Op: api.OpPre, N: n} }
	store := func(n int) code.Ins { return code.Ins{Op: code.OpStore, N: n} }
	for what, c := range map[string]struct {
		ins []code.Ins
		may bool
	}{
		"a Pre alone":            {[]code.Ins{pre(0)}, true},
		"two Pre's of one slot":  {[]code.Ins{pre(1), pre(1)}, true},
		"a Store alone":          {[]code.Ins{num, store(1)}, true},
		"Stores of each slot":    {[]code.Ins{num, store(1), store(0)}, true},
		"a Store twice":          {[]code.Ins{num, store(1), store(1)}, false},
		"a Store twice, beside":  {[]code.Ins{num, store(0), store(1), store(0)}, false},
		"a Store twice, far":     {[]code.Ins{num, store(0), num, num, store(0)}, false},
		"Pre, Store":             {[]code.Ins{pre(0), store(0)}, true},
		"Pre's, Stores":          {[]code.Ins{pre(0), pre(1), num, store(1), num, store(0), num}, true},
		"Store, Pre":             {[]code.Ins{num, store(0), pre(0)}, false},
		"Store, another Pre":     {[]code.Ins{num, store(0), pre(1)}, false},
		"Pre, Store, that Pre":   {[]code.Ins{pre(0), store(0), pre(0)}, false},
		"Pre, Store, far Pre":    {[]code.Ins{pre(0), store(0), num, num, pre(1)}, false},
		"Pre, Store of no slot":  {[]code.Ins{pre(0), store(2)}, false},
		"Pre of no slot, Store":  {[]code.Ins{pre(2), store(0)}, false},
		"Pre of a slot below 0":  {[]code.Ins{pre(-1)}, false},
		"Store into one below 0": {[]code.Ins{num, store(-1)}, false},
	} {
		checks(t, what, code.Code{Ins: c.ins, Regs: 1, Slots: 2}, c.may)
		checks(t, what, code.Code{Ins: c.ins, Regs: 1}, false)
	}
}

func TestCheckSizes(t *testing.T) {
	began := time.Now()
	one := []code.Ins{{Op: api.OpNum}}
	for n, may := range map[int]bool{math.MinInt: false, -1: false, 0: false, 1: true, 2: true, 99999: true, 100000: true, 100001: false, 1 << 32: false, 1<<32 + 1: false, math.MaxInt: false} {
		checks(t, "registers "+strconv.Itoa(n), code.Code{Regs: n, Ins: one}, may)
		checks(t, "registers "+strconv.Itoa(n), code.Code{Regs: n}, may || n == 0)
		checks(t, "slots "+strconv.Itoa(n), code.Code{Regs: 1, Slots: n, Ins: one}, may || n == 0)
		checks(t, "slots "+strconv.Itoa(n), code.Code{Slots: n}, may || n == 0)
		checks(t, "a slot "+strconv.Itoa(n), code.Code{Regs: 1, Slots: n, Ins: []code.Ins{{Op: api.OpPre}}}, may)
	}
	last := code.Code{Regs: 100000, Slots: 100000, Outs: []int{99999}, Ins: []code.Ins{{Op: api.OpPre, D: 99999, N: 99999}, {Op: code.OpStore, A: 99999, N: 99999}}}
	checks(t, "the last register and slot", last, true)
	last.Ins[0].D++
	checks(t, "behind the last register", last, false)
	// As many instructions as there may be; each writes another register, and each slot has its Store.
	c := code.Code{Regs: 100000, Slots: 100000, Outs: []int{0, 99999}}
	for i := range 200000 {
		if i < 100000 {
			c.Ins = append(c.Ins, code.Ins{Op: api.OpPre, D: i, N: 99999 - i})
		} else {
			c.Ins = append(c.Ins, code.Ins{Op: code.OpStore, A: i - 100000, N: i - 100000})
		}
	}
	checks(t, "200000 instructions", c, true)
	c.Ins[199999].N = 5
	checks(t, "the last one's slot", c, false)
	c.Ins = append(c.Ins[:199999], one[0], one[0])
	checks(t, "200001 instructions", c, false)
	checks(t, "200000 instructions", code.Code{Regs: 100000, Slots: 99999, Ins: slices.Repeat(one, 200000)}, true)
	for what, c := range map[string]struct {
		outs, inputs []int
		may          bool
	}{
		"nothing": {nil, nil, true}, "a register": {[]int{0}, nil, true}, "often": {[]int{2, 0, 2, 2, 0}, nil, true}, "not written": {[]int{1}, nil, false}, "not written, behind": {[]int{0, 2, 1}, nil, false}, "none": {[]int{3}, nil, false}, "below": {[]int{-1}, nil, false}, "far": {[]int{0, math.MaxInt}, nil, false}, "far below": {[]int{math.MinInt, 0}, nil, false},
		"inputs": {[]int{0}, []int{math.MinInt, 0, -1, math.MaxInt}, true}, "many": {slices.Repeat([]int{0, 2}, 200000), make([]int, 300000), true},
	} {
		checks(t, what, code.Code{Regs: 3, Ins: []code.Ins{{Op: api.OpNum, D: 2}, {Op: api.OpNum}}, Outs: c.outs, Inputs: c.inputs}, c.may)
	}
	checks(t, "outs of nothing", code.Code{Regs: 1, Outs: []int{0}}, false)
	checks(t, "nothing", code.Code{}, true)
	checks(t, "empty", code.Code{Ins: []code.Ins{}, Outs: []int{}, Inputs: []int{}}, true)
	if took := time.Since(began); took > time.Minute {
		t.Errorf("%v", took)
	}
}

// checked is what P16.1 says, told in another way: each instruction looks back
// at those ahead of it.
func checked(c code.Code) bool {
	may := c.Regs >= 0 && c.Regs <= 100000 && c.Slots >= 0 && c.Slots <= 100000 && len(c.Ins) <= 200000
	writes := func(l []code.Ins, r int) bool {
		return slices.ContainsFunc(l, func(x code.Ins) bool { return x.Op != code.OpStore && x.D == r })
	}
	limit := func(x code.Ins) (int, int) {
		switch x.Op {
		case api.OpNum:
			return math.MinInt32, math.MaxInt32
		case api.OpBool:
			return 0, 1
		case api.OpVar:
			return 0, len(c.Inputs) - 1
		}
		return 0, c.Slots - 1
	}
	for i, x := range c.Ins {
		fields, known := named()[x.Op]
		may = may && known
		for _, letter := range "DABCN" {
			k := *field(&x, letter)
			low, high := limit(x)
			switch {
			case !strings.ContainsRune(fields, letter):
				may = may && k == 0
			case letter == 'D':
				may = may && k >= 0 && k < c.Regs
			case letter == 'N':
				may = may && k >= low && k <= high
			default:
				may = may && writes(c.Ins[:i], k)
			}
		}
		for _, y := range c.Ins[:i] {
			if y.Op == code.OpStore && (x.Op == api.OpPre || x.Op == code.OpStore && x.N == y.N) {
				may = false
			}
		}
	}
	for _, r := range c.Outs {
		may = may && writes(c.Ins, r)
	}
	return may
}

func TestCheckMany(t *testing.T) {
	r := rand.New(rand.NewSource(161))
	ops := []int{api.OpVar, api.OpNum, api.OpBool, api.OpPre, api.OpPre, api.OpNot, api.OpNeg, api.OpAdd, api.OpDiv, api.OpLe, api.OpImp, api.OpArrow, api.OpIf, code.OpStore, code.OpStore}
	seen := map[bool]int{}
	for range 200000 {
		c := code.Code{Regs: 1 + r.Intn(4), Slots: 1 + r.Intn(3), Inputs: make([]int, 1+r.Intn(2))}
		size := r.Intn(9)
		for i := range size {
			x := code.Ins{Op: ops[r.Intn(len(ops))]}
			if x.Op == code.OpStore && i < size/2 {
				x.Op = api.OpNum
			}
			for _, letter := range named()[x.Op] {
				*field(&x, letter) = r.Intn(2)
				if r.Intn(6) == 0 {
					*field(&x, letter) = r.Intn(4)
				}
			}
			if r.Intn(60) == 0 {
				*field(&x, []rune("DABCN")[r.Intn(5)]) = []int{-1, 1, 2, 5, math.MaxInt, math.MinInt}[r.Intn(6)]
			}
			if r.Intn(100) == 0 {
				x.Op = r.Intn(33) - 1
			}
			c.Ins = append(c.Ins, x)
		}
		if len(c.Ins) > 0 && r.Intn(2) == 0 {
			c.Outs = []int{c.Ins[0].D, r.Intn(3)}[:1+r.Intn(2)]
		}
		may := checked(c)
		checks(t, "some", c, may)
		seen[may]++
		if t.Failed() {
			return
		}
	}
	if seen[true] < 20000 || seen[false] < 20000 {
		t.Error(seen)
	}
}
