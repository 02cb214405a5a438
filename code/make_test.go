package code_test

import (
	"math"
	"slices"
	"strconv"
	"strings"
	"testing"
	"time"

	"bailment/api"
	"bailment/code"
	"bailment/expr"
	"bailment/flat"
	"bailment/norm"
	"bailment/past"
	"bailment/prog"
)

// o is an operator; fields that hold no operand are -1.
func o(op int, n int, operands ...int) norm.Op {
	fields := [3]int{-1, -1, -1}
	copy(fields[:], operands)
	return norm.Op{Op: op, A: fields[0], B: fields[1], C: fields[2], N: n}
}

// ops are read from texts such as "in 0, 7, true, add 0 1".
func ops(t *testing.T, text string) []norm.Op {
	t.Helper()
	known := map[string]int{
		"not": api.OpNot, "neg": api.OpNeg, "and": api.OpAnd, "or": api.OpOr, "xor": api.OpXor, "imp": api.OpImp, "eq": api.OpEq, "ne": api.OpNe, "lt": api.OpLt, "le": api.OpLe,
		"add": api.OpAdd, "sub": api.OpSub, "mul": api.OpMul, "div": api.OpDiv, "mod": api.OpMod, "arrow": api.OpArrow, "pre": api.OpPre, "if": api.OpIf,
	}
	var l []norm.Op
	for _, s := range strings.Split(text, ",") {
		w := strings.Fields(s)
		var numbers []int
		for _, x := range w {
			if k, err := strconv.Atoi(x); err == nil {
				numbers = append(numbers, k)
			}
		}
		switch {
		case len(w) == 0:
		case w[0] == "in":
			l = append(l, o(api.OpVar, numbers[0]))
		case w[0] == "true":
			l = append(l, o(api.OpBool, 1))
		case len(numbers) == len(w):
			l = append(l, o(api.OpNum, numbers[0]))
		case known[w[0]] == 0:
			t.Fatalf("%q", s)
		default:
			l = append(l, o(known[w[0]], 0, numbers...))
		}
	}
	return l
}

// streams are read from texts such as "a int" and "x bool = a < 1".
func streams(t *testing.T, l ...string) []api.Stream {
	t.Helper()
	var out []api.Stream
	for _, s := range l {
		head, text, is := strings.Cut(s, " = ")
		name, kind, _ := strings.Cut(head, " ")
		x := api.Stream{Name: name, Type: map[string]int{"bool": api.Bool, "int": api.Int}[kind]}
		if is {
			e, f := expr.Read(text)
			if f.Code != api.OK {
				t.Fatalf("%q: %v", s, f)
			}
			x.E = e
		}
		out = append(out, x)
	}
	return out
}

func alike(a, b norm.Net) bool {
	return slices.Equal(a.Ops, b.Ops) && slices.Equal(a.Roots, b.Roots) && slices.Equal(a.Inputs, b.Inputs)
}

func twin(n norm.Net) norm.Net {
	return norm.Net{Ops: slices.Clone(n.Ops), Roots: slices.Clone(n.Roots), Inputs: slices.Clone(n.Inputs)}
}

// spoil writes all over a list, with its spare room: nobody else may mind.
func spoil[T any](l []T, by T) {
	whole := l[:cap(l)]
	for i := range whole {
		whole[i] = by
	}
}

// makes makes code, twice, and tells that it is of the size that it may have.
func makes(t *testing.T, what string, n norm.Net, told []int) code.Code {
	t.Helper()
	before, asked := twin(n), slices.Clone(told)
	var first code.Code
	for i := range 2 {
		c, f := code.Make(n, told)
		if f != api.OK {
			t.Fatalf("P16.2: %s: %s: %d", what, short(n), f)
		}
		fits(t, what, n, told, c)
		if i == 0 {
			first = copied(c)
		} else if !same(c, first) {
			t.Fatalf("R6: %s: %s, then %s", what, short(first), short(c))
		}
		spoil(c.Ins, code.Ins{Op: -9})
		spoil(c.Outs, -9)
		spoil(c.Inputs, -9)
	}
	if !alike(n, before) || !slices.Equal(told, asked) {
		t.Fatalf("R5: %s: %s, %v is changed", what, short(before), asked)
	}
	return first
}

// fits tells that code may be, and is no larger than P16.2 says.
func fits(t *testing.T, what string, n norm.Net, told []int, c code.Code) {
	t.Helper()
	pres := 0
	for _, x := range n.Ops {
		if x.Op == api.OpPre {
			pres++
		}
	}
	if f := code.Check(c); f != api.OK {
		t.Fatalf("P16.2: %s: %s: %d", what, short(c), f)
	}
	if len(c.Ins) > len(n.Ops)+pres || c.Regs > len(n.Ops) || c.Slots > pres {
		t.Fatalf("P16.2: %s: %d instructions, %d registers, %d slots of %d operators, %d Pre's", what, len(c.Ins), c.Regs, c.Slots, len(n.Ops), pres)
	}
	if len(c.Outs) != len(told) || !slices.Equal(c.Inputs, n.Inputs) {
		t.Fatalf("P16.2: %s: %s, told %v of inputs %v", what, short(c), told, n.Inputs)
	}
}

func fails(t *testing.T, what string, n norm.Net, told []int, want api.Errno) {
	t.Helper()
	for range 2 {
		if c, f := code.Make(n, told); f != want || !same(c, code.Code{}) {
			t.Errorf("P16.2: %s: %s, told %v: %s, %d, not %d", what, short(n), short(told), short(c), f, want)
		}
	}
}

func TestMakeNets(t *testing.T) {
	for _, text := range []string{
		"7", "true", "in 0", "in 1, in 0", "7, 8, 9",
		"in 0, 1, add 0 1", "add 1 2, in 0, 1", "in 0, mul 0 0", "in 0, add 0 0, add 1 1, add 2 2", "in 0, if 0 0 0",
		// Operands that end where others begin, in any place.
		"in 0, in 1, sub 0 1, sub 1 2, sub 2 0", "in 0, in 1, sub 1 0, if 0 2 1, if 3 3 2", "1, 2, 3, if 0 1 2, if 2 0 1, sub 3 4", "in 0, neg 0, neg 1, neg 2, sub 3 3",
		// Operators that nobody needs.
		"in 0, neg 0, in 1, neg 2, 5, sub 3 1", "5, 6, 7, in 0, neg 3, 8, 9, sub 4 4",
		// The past: counters, rows of delays, and Pre's that share what they keep.
		"pre 0", "pre 1, pre 0", "1, pre 2, add 1 0", "0, pre 4, 1, add 1 2, arrow 0 3", "in 0, pre 0, pre 1, pre 2", "pre 1, pre 2, pre 3, in 0", "in 0, pre 0, pre 0, sub 1 2, pre 3", "pre 2, in 0, sub 1 0, neg 2", "in 0, in 1, arrow 0 1, arrow 1 0, pre 3, arrow 4 2",
		"neg 1, pre 0", "neg 4, pre 3, in 0, add 2 1, pre 4", "in 0, pre 2, in 1, pre 0, sub 3 1",
		// Faults, of what nobody needs as well.
		"in 0, in 1, div 0 1", "in 0, in 1, div 0 1, 5", "in 0, in 1, mod 0 1, mul 0 0", "in 0, in 1, arrow 1 0, div 0 2", "1, in 0, pre 1, div 0 2", "in 0, in 1, add 0 1, div 0 1, 3",
	} {
		l := ops(t, text)
		n := norm.Net{Ops: l, Inputs: []int{api.Int, api.Int}}
		for i := range l {
			n.Roots = append(n.Roots, i)
		}
		in := [][]int{{1, 2}, {5, 3}, {5, 3}, {0, 1}, {-7, 2}, {4, 0}, {1, 1}}
		over := [][]int{{1, 2}, {9, 8}, {math.MaxInt32, 1}, {1, 1}}
		all := n.Roots
		for i := range all {
			for _, told := range [][]int{{}, all[i:], {i}, {i, 0, i}, {len(l) - 1, i}} {
				c := makes(t, text, n, told)
				runs(t, text, n, told, c, in)
				runs(t, text, n, told, c, over)
			}
		}
	}
	// The example of the chapter: two registers or three.
	c := makes(t, "example", norm.Net{Ops: ops(t, "in 0, 1, add 0 1"), Roots: []int{0, 2}, Inputs: []int{api.Int}}, []int{1})
	got := []int{}
	for _, x := range c.Ins {
		got = append(got, x.Op)
	}
	if !slices.Equal(got, []int{api.OpVar, api.OpNum, api.OpAdd}) || c.Regs < 2 || c.Regs > 3 || c.Slots != 0 {
		t.Errorf("P16.2: %v", c)
	}
	if c := makes(t, "nothing", norm.Net{}, nil); !same(c, code.Code{}) {
		t.Errorf("P16.2: %v", c)
	}
	makes(t, "inputs alone", norm.Net{Inputs: []int{7, math.MinInt}}, []int{})
	makes(t, "told often", norm.Net{Ops: ops(t, "7, 8"), Roots: []int{1, 0, 1}}, slices.Repeat([]int{0, 1, 2}, 100000))
}

func TestMakeFaults(t *testing.T) {
	n := norm.Net{Ops: ops(t, "in 0, neg 0, 5"), Roots: []int{2, 0}, Inputs: []int{api.Int}}
	for _, k := range []int{math.MinInt, -2, -1, 2, 3, 1 << 32, math.MaxInt} {
		for _, told := range [][]int{{k}, {k, 0}, {0, k}, {1, 0, k}} {
			fails(t, "told", n, told, api.ErrArg)
		}
	}
	fails(t, "no roots", norm.Net{Ops: n.Ops, Inputs: n.Inputs}, []int{0}, api.ErrArg)
	fails(t, "nothing", norm.Net{}, []int{0}, api.ErrArg)
	for text, want := range map[string]api.Errno{
		"neg 0": api.ErrCycle, "add 1 0, 7": api.ErrCycle, "neg 1, neg 0": api.ErrCycle, "7, arrow 0 2, add 1 0": api.ErrCycle, "pre 1, neg 1": api.ErrCycle,
		"neg 1": api.ErrArg, "pre 1": api.ErrArg, "in 1": api.ErrArg, "2147483648": api.ErrArg, "neg 0 0": api.ErrArg, "neg 0, neg 2": api.ErrArg, "7, add 0": api.ErrArg,
	} {
		bad := norm.Net{Ops: ops(t, text), Roots: []int{0}, Inputs: []int{api.Int}}
		// The net's error goes ahead of that of what is told.
		for _, told := range [][]int{nil, {0}, {1}, {-1}, {0, 5}} {
			fails(t, text, bad, told, want)
		}
		bad.Roots = []int{0, len(bad.Ops)}
		fails(t, text, bad, nil, api.ErrArg)
	}
	for _, op := range []int{0, -1, api.OpOnce, api.OpHist, api.OpPrev, api.OpWithin, api.OpSince, api.OpCall, api.OpArgs, 29, code.OpStore} {
		for k := range 4 {
			fails(t, "operator", norm.Net{Ops: []norm.Op{o(api.OpNum, 1), o(op, 0, []int{0, 0, 0}[:k]...)}}, nil, api.ErrArg)
		}
	}
}

// As many operators as there may be; and how few registers they take, since
// those that are free again are taken first.
func TestMakeMany(t *testing.T) {
	began := time.Now()
	const most = 100000
	for what, c := range map[string]struct {
		row       func(i int) norm.Op
		registers int
	}{
		"numbers": {func(i int) norm.Op { return o(api.OpNum, i) }, 2},
		"pres":    {func(i int) norm.Op { return o(api.OpPre, 0, i) }, most},
		"a row":   {func(i int) norm.Op { return o(api.OpNeg, 0, i-1) }, 2},
		"pairs":   {func(i int) norm.Op { return o(api.OpAdd, 0, i-1, max(i-2, 0)) }, 4},
		"triples": {func(i int) norm.Op { return o(api.OpIf, 0, i-1, max(i-2, 0), max(i-3, 0)) }, 5},
		"delays":  {func(i int) norm.Op { return o(api.OpPre, 0, most-1-i) }, most},
	} {
		var l []norm.Op
		for i := range most {
			if i == 0 && what != "pres" && what != "delays" {
				l = append(l, o(api.OpNum, 3))
				continue
			}
			l = append(l, c.row(i))
		}
		n := norm.Net{Ops: l, Roots: []int{most - 1, most / 2}}
		got := makes(t, what, n, []int{0})
		if got.Regs > c.registers {
			t.Errorf("%s: %d registers", what, got.Regs)
		}
		makes(t, what, n, []int{1, 0, 1})
		n.Ops = append(slices.Clone(l), o(api.OpNum, 0))
		fails(t, what, n, nil, api.ErrArg)
	}
	if took := time.Since(began); took > time.Minute {
		t.Errorf("%v", took)
	}
}

// A program, all the way through the layers below.
func TestMakeProgram(t *testing.T) {
	p, f := prog.Parse("node count(b: bool) returns (c: int) let c = (0 -> pre c) + if b then 1 else 0; tel " +
		"node f(a: int) returns (x: int) let x = count(once (a > 2)) - 10 div (4 - count(a > 2)); tel main f;")
	if f.Code != api.OK {
		t.Fatal(f)
	}
	l, e := flat.Make(p, "f")
	if e == api.OK {
		l, e = past.Free(l)
	}
	n, e2 := norm.Make(l)
	if e != api.OK || e2 != api.OK {
		t.Fatal(e, e2)
	}
	told := []int{flat.Find(l, "x"), flat.Find(l, "a"), flat.Find(l, "#2.c")}
	c := makes(t, "program", n, told)
	in := [][]int{{1}, {3}, {2}, {5}, {5}, {0}, {9}, {1}}
	rows, f2 := run(c, in)
	want := [][]int{{-2, 1, 0}, {-2, 3, 1}, {-1, 2, 1}, {-2, 5, 2}, {-6, 5, 3}, {-5, 0, 3}}
	if f2 != api.ErrZero || !slices.EqualFunc(rows, want, slices.Equal) {
		t.Errorf("P16.2: %v, %d", rows, f2)
	}
	tells(t, l, told, c, in)
}

// What streams tell, those that are others, too.
func TestMakeStreams(t *testing.T) {
	in := [][]int{{1, 1}, {2, 0}, {-3, 1}, {math.MaxInt32, 0}, {7, 1}}
	for _, l := range [][]string{
		{"a int", "b bool", "x int = a + 1", "y int = x"},
		{"a int", "b bool", "c int = 0 -> pre c + 1", "d int = c", "e int = d * a"},
		{"x int = y * 2", "y int = a + 0 -> pre x", "a int", "b bool"},
		{"a int", "b bool", "s int = (0 -> pre s) + if b then a else -a", "t int = pre s - s"},
		{"a int", "b bool", "f bool = true -> pre (f and b)", "g int = if f then 1 div a else 2"},
		{"a int", "b bool", "x int = pre y", "y int = pre x + a", "z int = (x + y) mod a"},
		{"b int", "a bool", "x int = b", "y int = x -> pre y - 1", "z int = y"},
	} {
		s := streams(t, l...)
		n, f := norm.Make(s)
		if f != api.OK {
			t.Fatal(l, f)
		}
		var all []int
		for i := range s {
			all = append(all, i)
			tells(t, s, []int{i}, makes(t, strings.Join(l, "; "), n, []int{i}), in)
		}
		tells(t, s, all, makes(t, strings.Join(l, "; "), n, all), in)
		slices.Reverse(all)
		tells(t, s, all, makes(t, strings.Join(l, "; "), n, all), in)
	}
}
