package sched_test

import (
	"fmt"
	"math"
	"slices"
	"strconv"
	"strings"
	"testing"
	"time"

	"bailment/api"
	"bailment/expr"
	"bailment/flat"
	"bailment/norm"
	"bailment/past"
	"bailment/prog"
	"bailment/sched"
)

// o is an operator; fields that hold no operand are -1.
func o(op int, n int, operands ...int) norm.Op {
	fields := [3]int{-1, -1, -1}
	copy(fields[:], operands)
	return norm.Op{Op: op, A: fields[0], B: fields[1], C: fields[2], N: n}
}

func words() map[string]int {
	return map[string]int{
		"not": api.OpNot, "neg": api.OpNeg, "and": api.OpAnd, "or": api.OpOr, "xor": api.OpXor, "imp": api.OpImp, "eq": api.OpEq, "ne": api.OpNe, "lt": api.OpLt, "le": api.OpLe,
		"add": api.OpAdd, "sub": api.OpSub, "mul": api.OpMul, "div": api.OpDiv, "mod": api.OpMod, "arrow": api.OpArrow, "pre": api.OpPre, "if": api.OpIf,
	}
}

// ops are read from texts such as "in 0, 7, true, add 0 1".
func ops(t *testing.T, text string) []norm.Op {
	t.Helper()
	var l []norm.Op
	for _, s := range strings.Split(text, ",") {
		w := strings.Fields(s)
		if len(w) == 0 {
			continue
		}
		var numbers []int
		for _, x := range w {
			if k, err := strconv.Atoi(x); err == nil {
				numbers = append(numbers, k)
			}
		}
		switch {
		case w[0] == "in":
			l = append(l, o(api.OpVar, numbers[0]))
		case w[0] == "true":
			l = append(l, o(api.OpBool, 1))
		case len(numbers) == len(w):
			l = append(l, o(api.OpNum, numbers[0]))
		case words()[w[0]] == 0:
			t.Fatalf("%q", s)
		default:
			l = append(l, o(words()[w[0]], 0, numbers...))
		}
	}
	return l
}

// short is the beginning of what a thing is as a text.
func short(x any) string {
	s := fmt.Sprint(x)
	return s[:min(len(s), 600)]
}

func same(a, b norm.Net) bool {
	return slices.Equal(a.Ops, b.Ops) && slices.Equal(a.Roots, b.Roots) && slices.Equal(a.Inputs, b.Inputs)
}

func copied(n norm.Net) norm.Net {
	return norm.Net{Ops: slices.Clone(n.Ops), Roots: slices.Clone(n.Roots), Inputs: slices.Clone(n.Inputs)}
}

// spoil writes all over a list, with its spare room: nobody else may mind.
func spoil[T any](l []T, by T) {
	whole := l[:cap(l)]
	for i := range whole {
		whole[i] = by
	}
}

// orders tells in which order a net is, and that what is told of it fits that:
// twice, since what is answered is nobody else's memory.
func orders(t *testing.T, what string, n norm.Net, want ...int) {
	t.Helper()
	before := copied(n)
	sorted := renumbered(n, want)
	for range 2 {
		got, f := sched.Order(n)
		if f != api.OK || !slices.Equal(got, want) {
			t.Errorf("P15.1: %s: %s: %s, %d, not %s", what, short(n), short(got), f, short(want))
			return
		}
		spoil(got, -9)
		m, f := sched.Sort(n)
		if f != api.OK || !same(m, sorted) {
			t.Errorf("P15.2: %s: %s: %s, %d, not %s", what, short(n), short(m), f, short(sorted))
			return
		}
		spoil(m.Ops, norm.Op{Op: -9})
		spoil(m.Roots, -9)
		spoil(m.Inputs, -9)
	}
	is(t, what, n, slices.IsSorted(want))
	is(t, what+", sorted", sorted, true)
	if again, f := sched.Sort(sorted); f != api.OK || !same(again, sorted) {
		t.Errorf("P15.4: %s: %s: sorted again %s, %d", what, short(sorted), short(again), f)
	}
	if !same(n, before) {
		t.Errorf("R5: %s: %s is changed", what, short(before))
	}
}

// renumbered is a net of the same operators in another order.
func renumbered(n norm.Net, order []int) norm.Net {
	to := map[int]int{-1: -1}
	for i, old := range order {
		to[old] = i
	}
	m := norm.Net{Inputs: n.Inputs}
	for _, old := range order {
		x := n.Ops[old]
		m.Ops = append(m.Ops, norm.Op{Op: x.Op, A: to[x.A], B: to[x.B], C: to[x.C], N: x.N})
	}
	for _, k := range n.Roots {
		m.Roots = append(m.Roots, to[k])
	}
	return m
}

// is tells whether a net is in order, and by which operators each one is needed last.
func is(t *testing.T, what string, n norm.Net, want bool) {
	t.Helper()
	if got := sched.Is(n); got != want {
		t.Errorf("P15.3: %s: %s: %v", what, short(n), got)
	}
	var last []int
	if want {
		last = needed(n)
	}
	for range 2 {
		got := sched.Ends(n)
		if !slices.Equal(got, last) {
			t.Errorf("P15.3: %s: %s: %s, not %s", what, short(n), short(got), short(last))
		}
		spoil(got, -9)
	}
}

// needed is what P15.3 says of Ends: from the back on, the first operator that needs each one.
func needed(n norm.Net) []int {
	last := map[int]int{}
	for i := len(n.Ops) - 1; i >= 0; i-- {
		x := n.Ops[i]
		for _, k := range []int{x.A, x.B, x.C} {
			if _, known := last[k]; !known && x.Op != api.OpPre {
				last[k] = i
			}
		}
	}
	var l []int
	for k := range n.Ops {
		if i, known := last[k]; known {
			l = append(l, i)
		} else {
			l = append(l, -1)
		}
	}
	return l
}

func fails(t *testing.T, what string, n norm.Net, want api.Errno) {
	t.Helper()
	before := copied(n)
	for range 2 {
		if l, f := sched.Order(n); f != want || len(l) > 0 {
			t.Errorf("P15.1: %s: %s: %s, %d, not %d", what, short(n), short(l), f, want)
		}
		if m, f := sched.Sort(n); f != want || len(m.Ops)+len(m.Roots)+len(m.Inputs) > 0 {
			t.Errorf("P15.2: %s: %s: %s, %d, not %d", what, short(n), short(m), f, want)
		}
		is(t, what, n, false)
	}
	if !same(n, before) {
		t.Errorf("R5: %s: %s is changed", what, short(before))
	}
}

func TestOrders(t *testing.T) {
	for text, want := range map[string][]int{
		"":  nil,
		"7": {0},
		// The example of the chapter.
		"add 1 2, in 0, 7": {1, 2, 0},
		"in 0, 7, add 0 1": {0, 1, 2},
		"in 1, in 0, in 1": {0, 1, 2},
		"in 0, add 0 2, 7": {0, 2, 1},
		"not 1, true":      {1, 0},
		"true, not 0":      {0, 1},
		// The least one that may be taken goes first, though others wait longer.
		"not 3, not 4, 5, 6, 7":            {2, 3, 0, 4, 1},
		"not 4, not 3, 5, 6, 7":            {2, 3, 1, 4, 0},
		"neg 1, neg 2, neg 3, 1":           {3, 2, 1, 0},
		"neg 2, 7, neg 4, 8, 9":            {1, 3, 4, 2, 0},
		"add 2 3, 1, neg 1, 2, add 0 2":    {1, 2, 3, 0, 4},
		"if 5 4 3, 0, 1, 2, neg 1, neg 2":  {1, 2, 3, 4, 5, 0},
		"if 3 1 2, 0, neg 1, neg 1, 9":     {1, 2, 3, 0, 4},
		"arrow 2 1, neg 2, 5":              {2, 1, 0},
		"arrow 1 2, 5, neg 1":              {1, 2, 0},
		"and 1 2, or 2 3, xor 3 3, true":   {3, 2, 1, 0},
		"7, add 2 2, neg 0, mul 2 1":       {0, 2, 1, 3},
		"eq 4 4, ne 4 4, lt 4 4, le 4 4,2": {4, 0, 1, 2, 3},
		// A Pre needs nothing: it goes as soon as its number is the least one.
		"pre 0":                           {0},
		"pre 1, 7":                        {0, 1},
		"pre 2, neg 0, neg 1":             {0, 1, 2},
		"pre 1, pre 0":                    {0, 1},
		"neg 1, pre 0":                    {1, 0},
		"neg 2, 7, pre 0":                 {1, 2, 0},
		"neg 1, add 2 3, pre 0, 4":        {2, 3, 1, 0},
		"arrow 1 3, 0, 1, add 4 2, pre 0": {1, 2, 4, 3, 0},
	} {
		l := ops(t, text)
		n := norm.Net{Ops: l, Inputs: []int{api.Int, api.Bool}}
		orders(t, text, n, want...)
		// What is told of it, and of which types inputs are, is no matter.
		for k := range l {
			n.Roots = append(n.Roots, k, len(l)-1-k, 0)
		}
		n.Inputs = []int{7, math.MinInt, 0}
		orders(t, text, n, want...)
	}
}

// Each operator needs each of its operands, but a Pre none.
func TestEachOperator(t *testing.T) {
	takes := map[string]int{"not": 1, "neg": 1, "pre": 1, "if": 3}
	for word := range words() {
		count := max(takes[word], 1)
		if takes[word] == 0 {
			count = 2
		}
		for at := range count {
			row := []int{0, 0, 0}[:count]
			row[at] = 2
			n := norm.Net{Ops: []norm.Op{o(api.OpNum, 5), o(words()[word], 0, row...), o(api.OpNum, 6)}, Roots: []int{1}}
			if word == "pre" {
				orders(t, word, n, 0, 1, 2)
				continue
			}
			orders(t, word, n, 0, 2, 1)
			n.Ops[1] = o(words()[word], 0, slices.Repeat([]int{1}, count)...)
			fails(t, word, n, api.ErrCycle)
		}
	}
}

func TestEnds(t *testing.T) {
	for text, want := range map[string][]int{
		"":                                nil,
		"7":                               {-1},
		"7, 8":                            {-1, -1},
		"7, neg 0":                        {1, -1},
		"7, neg 0, neg 0":                 {2, -1, -1},
		"7, neg 0, neg 1":                 {1, 2, -1},
		"7, 8, add 0 1, add 1 2":          {2, 3, 3, -1},
		"7, add 0 0":                      {1, -1},
		"1, 2, 3, if 0 1 2, if 2 1 2":     {3, 4, 4, -1, -1},
		"1, 2, arrow 0 1, neg 0":          {3, 2, -1, -1},
		"pre 0":                           {-1},
		"pre 1, 7":                        {-1, -1},
		"7, pre 0":                        {-1, -1},
		"7, neg 0, pre 0":                 {1, -1, -1},
		"7, pre 0, neg 1, pre 2":          {-1, 2, -1, -1},
		"pre 2, 7, add 0 1":               {2, 2, -1},
		"0, 1, pre 4, add 1 2, arrow 0 3": {4, 3, 3, 4, -1},
		"in 0, 2, 0, add 0 2, pre 6, arrow 3 4, mul 5 1": {3, 6, 3, 5, 5, 6, -1},
		// None is in order.
		"neg 1, 7":         nil,
		"7, neg 2, 8":      nil,
		"7, add 0 2, 8":    nil,
		"7, add 2 0, 8":    nil,
		"7, if 0 0 2, 8":   nil,
		"7, if 0 2 0, 8":   nil,
		"7, if 2 0 0, 8":   nil,
		"7, arrow 0 2, 8":  nil,
		"7, arrow 2 0, 8":  nil,
		"7, neg 1":         nil,
		"neg 0":            nil,
		"7, neg 0, neg 5":  nil,
		"7, pre 5":         nil,
		"7, neg -1":        nil,
		"7, neg 0 0":       nil,
		"in 0, in 1, in 2": nil,
	} {
		// What is told is no need.
		for _, roots := range [][]int{nil, {0}, {0, 0}} {
			n := norm.Net{Ops: ops(t, text), Roots: roots, Inputs: []int{api.Int, api.Int}}
			if text == "" {
				n.Roots = nil
			}
			if got := sched.Ends(n); !slices.Equal(got, want) || sched.Is(n) != (len(want) > 0 || text == "") {
				t.Errorf("P15.3: %s: %v, not %v", text, got, want)
			}
		}
	}
}

func TestWrongNets(t *testing.T) {
	for text, want := range map[string]api.Errno{
		"neg 0": api.ErrCycle, "add 0 1, 7": api.ErrCycle, "add 1 0, 7": api.ErrCycle, "if 1 1 0, 7": api.ErrCycle, "neg 1, neg 0": api.ErrCycle, "7, neg 2, neg 3, neg 1": api.ErrCycle, "pre 1, neg 1": api.ErrCycle, "7, arrow 0 2, add 1 0": api.ErrCycle, "arrow 0 1, 7": api.ErrCycle,
		"neg 1": api.ErrArg, "neg -1": api.ErrArg, "neg": api.ErrArg, "7, add 0": api.ErrArg, "7, neg 0 0": api.ErrArg, "pre 1": api.ErrArg, "pre": api.ErrArg, "in 2": api.ErrArg, "in -1": api.ErrArg, "2147483648": api.ErrArg, "-2147483649": api.ErrArg,
		// That it may not be goes ahead.
		"neg 0, neg 2": api.ErrArg, "neg 2, neg 1": api.ErrArg,
	} {
		n := norm.Net{Ops: ops(t, text), Inputs: []int{api.Int, api.Int}}
		fails(t, text, n, want)
		n.Roots = []int{0}
		fails(t, text, n, want)
		for _, k := range []int{-1, len(n.Ops), math.MinInt, math.MaxInt} {
			n.Roots = []int{0, k}
			fails(t, text, n, api.ErrArg)
		}
	}
	for _, x := range []norm.Op{{}, {Op: api.OpNum}, {Op: api.OpBool, A: -1, B: -1, C: -1, N: 2}, {Op: api.OpNot, A: 1, B: -1, C: -1, N: 1}, o(api.OpOnce, 0, 1), o(api.OpPrev, 0, 1), o(api.OpSince, 0, 1, 1), o(api.OpWithin, 0, 1), o(api.OpCall, 0), o(api.OpArgs, 0, 1), o(30, 0, 1), o(-1, 0), o(math.MaxInt, 0)} {
		fails(t, "operator", norm.Net{Ops: []norm.Op{x, o(api.OpNum, 1)}}, api.ErrArg)
	}
	fails(t, "roots alone", norm.Net{Roots: []int{0}}, api.ErrArg)
	orders(t, "inputs alone", norm.Net{Inputs: []int{1, 2, 3}})
	orders(t, "empty", norm.Net{Ops: []norm.Op{}, Roots: []int{}, Inputs: []int{}})
}

// As many operators as there may be.
func TestMany(t *testing.T) {
	began := time.Now()
	const most = 100000
	var up, down []int
	for i := range most {
		up, down = append(up, i), append(down, most-1-i)
	}
	for what, c := range map[string]struct {
		row  func(i int) norm.Op
		want []int
	}{
		"numbers":             {func(i int) norm.Op { return o(api.OpNum, i) }, up},
		"pres":                {func(i int) norm.Op { return o(api.OpPre, 0, most-1-i) }, up},
		"front":               {func(i int) norm.Op { return o(api.OpIf, 0, max(i-1, 0), max(i-2, 0), i/2) }, up},
		"back":                {func(i int) norm.Op { return o(api.OpAdd, 0, min(i+1, most-1), min(i+2, most-1)) }, down},
		"all of the last one": {func(i int) norm.Op { return o(api.OpAdd, 0, most-1, most-1) }, append([]int{most - 1}, up[:most-1]...)},
	} {
		var l []norm.Op
		for i := range most {
			l = append(l, c.row(i))
		}
		if i := c.want[0]; what != "pres" {
			l[i] = o(api.OpNum, 0)
		}
		n := norm.Net{Ops: l, Roots: []int{0, most - 1, 5}}
		orders(t, what, n, c.want...)
		n.Ops = append(slices.Clone(l), o(api.OpNum, 0))
		fails(t, what, n, api.ErrArg)
	}
	if took := time.Since(began); took > time.Minute {
		t.Errorf("%v", took)
	}
}

// A program, all the way through the layers below.
func TestProgram(t *testing.T) {
	p, f := prog.Parse("node count(b: bool) returns (c: int) let c = (0 -> pre c) + if b then 1 else 0; tel " +
		"node f(a: int) returns (x: int) let x = count(once (a > 2)) - 1; tel main f;")
	if f.Code != api.OK {
		t.Fatal(f)
	}
	l, e := flat.Make(p, "f")
	if e == api.OK {
		l, e = past.Free(l)
	}
	n, e2 := norm.Make(l)
	if e != api.OK || e2 != api.OK {
		t.Fatal(e, e2)
	}
	// in 0, 1, sub 9 1, 0, pre 9, arrow 3 4, 1, 0, if 15 6 7, add 5 8, 2, lt 10 0, false, pre 15, arrow 12 13, or 11 14
	orders(t, "program", n, 0, 1, 3, 4, 5, 6, 7, 10, 11, 12, 13, 14, 15, 8, 9, 2)
	e1, f := expr.Read("x + 1")
	if f.Code != api.OK {
		t.Fatal(f)
	}
	n, _ = norm.Make([]api.Stream{{Name: "y", Type: api.Int, E: e1}, {Name: "x", Type: api.Int}})
	orders(t, "streams", n, 0, 1, 2)
}
