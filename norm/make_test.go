package norm_test

import (
	"fmt"
	"math"
	"regexp"
	"slices"
	"strconv"
	"strings"
	"testing"
	"time"

	"bailment/api"
	"bailment/expr"
	"bailment/flat"
	"bailment/norm"
	"bailment/past"
	"bailment/prog"
	"bailment/tree"
)

func v(name string) api.Expr { return tree.Join(api.OpVar, 0, name) }

func number(n int) api.Expr { return tree.Join(api.OpNum, n, "") }

func op(op int, parts ...api.Expr) api.Expr { return tree.Join(op, 0, "", parts...) }

// sum is one of n parts that is not deep.
func sum(n int, part func(i int) api.Expr) api.Expr {
	next := 0
	var of func(n int) api.Expr
	of = func(n int) api.Expr {
		if n == 1 {
			next++
			return part(next - 1)
		}
		a := of(n / 2)
		return op(api.OpAdd, a, of(n-n/2))
	}
	return of(n)
}

// nots are so many over an expression.
func nots(n int, e api.Expr) api.Expr {
	for range n {
		e = op(api.OpNot, e)
	}
	return e
}

func read(t *testing.T, s string) api.Expr {
	t.Helper()
	e, f := expr.Read(s)
	if f.Code != api.OK {
		t.Fatalf("%q: %v", s, f)
	}
	return e
}

// streams are read from texts such as "a int" and "x bool = a < 1".
func streams(t *testing.T, l ...string) []api.Stream {
	t.Helper()
	var out []api.Stream
	for _, s := range l {
		head, e, is := strings.Cut(s, " = ")
		name, kind, _ := strings.Cut(head, " ")
		x := api.Stream{Name: name, Type: map[string]int{"bool": api.Bool, "int": api.Int}[kind]}
		if is {
			x.E = read(t, e)
		}
		out = append(out, x)
	}
	return out
}

var digits = regexp.MustCompile(`^-?\d+$`)

// net is read from texts such as "in 0", "7", "true", "add 0 1".
func net(t *testing.T, roots []int, inputs []int, ops ...string) norm.Net {
	t.Helper()
	known := map[string]int{
		"not": api.OpNot, "neg": api.OpNeg, "and": api.OpAnd, "or": api.OpOr, "xor": api.OpXor, "imp": api.OpImp, "eq": api.OpEq, "ne": api.OpNe, "lt": api.OpLt, "le": api.OpLe,
		"add": api.OpAdd, "sub": api.OpSub, "mul": api.OpMul, "div": api.OpDiv, "mod": api.OpMod, "arrow": api.OpArrow, "pre": api.OpPre, "if": api.OpIf,
	}
	n := norm.Net{Roots: roots, Inputs: inputs}
	for _, s := range ops {
		words := strings.Fields(s)
		var numbers []int
		for _, w := range words {
			if digits.MatchString(w) {
				k, _ := strconv.Atoi(w)
				numbers = append(numbers, k)
			}
		}
		switch {
		case words[0] == "in":
			n.Ops = append(n.Ops, o(api.OpVar, numbers[0]))
		case words[0] == "true":
			n.Ops = append(n.Ops, o(api.OpBool, 1))
		case words[0] == "false":
			n.Ops = append(n.Ops, o(api.OpBool, 0))
		case len(words) == 1:
			n.Ops = append(n.Ops, o(api.OpNum, numbers[0]))
		case known[words[0]] == 0:
			t.Fatalf("%q", s)
		default:
			n.Ops = append(n.Ops, o(known[words[0]], 0, numbers...))
		}
	}
	return n
}

func same(a, b norm.Net) bool {
	return slices.Equal(a.Ops, b.Ops) && slices.Equal(a.Roots, b.Roots) && slices.Equal(a.Inputs, b.Inputs)
}

// makes tells what net streams are, twice: what is answered is nobody else's memory.
func makes(t *testing.T, l []api.Stream, want norm.Net) {
	t.Helper()
	before := fmt.Sprint(l)
	for range 2 {
		got, f := norm.Make(l)
		if f != api.OK || !same(got, want) {
			t.Errorf("P14.2: %s: %s, %d, not %s", short(l), short(got), f, short(want))
			return
		}
		if f := norm.Check(got); f != api.OK {
			t.Errorf("P14.3: %s: %d", short(got), f)
		}
		for i := range got.Ops {
			got.Ops[i].N--
		}
		for _, l := range [][]int{got.Roots, got.Inputs} {
			whole := l[:cap(l)]
			for i := range whole {
				whole[i] = -9
			}
		}
	}
	if fmt.Sprint(l) != before {
		t.Errorf("R5: %s is changed", short(before))
	}
}

func fails(t *testing.T, what string, l []api.Stream, want api.Errno) {
	t.Helper()
	for range 2 {
		if n, f := norm.Make(l); f != want || len(n.Ops)+len(n.Roots)+len(n.Inputs) > 0 {
			t.Errorf("P14.2: %s: %s, %d, not %d", what, short(n), f, want)
		}
	}
}

func TestMakeEachOperator(t *testing.T) {
	for s, want := range map[string][]string{
		"7": {"7"}, "0": {"0"}, "2147483647": {"2147483647"}, "true": {"true"}, "false": {"false"},
		"not a": {"not 0"}, "-b": {"neg 1"}, "pre a": {"pre 0"}, "a -> b": {"arrow 0 1"}, "b -> a": {"arrow 1 0"},
		"a and b": {"and 0 1"}, "a or b": {"or 0 1"}, "a xor b": {"xor 0 1"}, "a => b": {"imp 0 1"}, "a = b": {"eq 0 1"}, "a <> b": {"ne 0 1"}, "a < b": {"lt 0 1"}, "a <= b": {"le 0 1"}, "a > b": {"lt 1 0"}, "a >= b": {"le 1 0"},
		"a + b": {"add 0 1"}, "a - b": {"sub 0 1"}, "a * b": {"mul 0 1"}, "a div b": {"div 0 1"}, "a mod b": {"mod 0 1"}, "a + a": {"add 0 0"}, "if a then b else c": {"if 0 1 2"}, "if c then a else b": {"if 2 0 1"}, "if a then a else a": {"if 0 0 0"},
		// Nodes in order; each number one of its own.
		"a + 1": {"1", "add 0 3"}, "1 + a": {"1", "add 3 0"}, "1 + 1": {"1", "1", "add 3 4"}, "a + 1 - (b + 1)": {"1", "add 0 3", "1", "add 1 5", "sub 4 6"}, "not not a": {"not 0", "not 3"}, "a and b or c": {"and 0 1", "or 3 2"}, "a and (b or c)": {"or 1 2", "and 0 3"},
		"if a < 1 then b + 2 else -c": {"1", "lt 0 3", "2", "add 1 5", "neg 2", "if 4 6 7"}, "0 -> pre (a + 1)": {"0", "1", "add 0 4", "pre 5", "arrow 3 6"}, "pre pre a": {"pre 0", "pre 3"}, "a * a + a * a": {"mul 0 0", "mul 0 0", "add 3 4"},
	} {
		root := 2 + len(want)
		makes(t, streams(t, "a bool", "b int", "c none", "x int = "+s), net(t, []int{0, 1, 2, root}, []int{api.Bool, api.Int, 0}, append([]string{"in 0", "in 1", "in 2"}, want...)...))
	}
}

func TestMakeStreams(t *testing.T) {
	inputs := []int{api.Int, api.Bool}
	// The example of the chapter.
	makes(t, streams(t, "a int", "x int = a + 1", "y int = x"), net(t, []int{0, 2, 2}, []int{api.Int}, "in 0", "1", "add 0 1"))
	makes(t, nil, norm.Net{})
	makes(t, []api.Stream{}, norm.Net{})
	makes(t, streams(t, "b int", "a bool"), net(t, []int{0, 1}, inputs, "in 0", "in 1"))
	// Inputs stand ahead of all operators, wherever their streams are.
	makes(t, streams(t, "x int = a + 1", "a int", "y bool = not b", "b bool"), net(t, []int{3, 0, 4, 1}, inputs, "in 0", "in 1", "1", "add 0 2", "not 1"))
	// Streams that need ones that come behind, and themselves.
	makes(t, streams(t, "x int = y * 2", "a int", "y int = z - a", "z int = 0 -> pre x"), net(t, []int{2, 0, 3, 6}, []int{api.Int}, "in 0", "2", "mul 3 1", "sub 6 0", "0", "pre 2", "arrow 4 5"))
	makes(t, streams(t, "c int = 0 -> pre c + 1"), net(t, []int{4}, nil, "0", "pre 4", "1", "add 1 2", "arrow 0 3"))
	makes(t, streams(t, "x int = pre x"), net(t, []int{0}, nil, "pre 0"))
	makes(t, streams(t, "x int = pre y", "y int = pre x"), net(t, []int{0, 1}, nil, "pre 1", "pre 0"))
	// Streams that are others: of inputs, of ones ahead, of ones behind, in rows.
	makes(t, streams(t, "y int = x", "b int", "x int = b", "a bool", "z bool = a"), net(t, []int{0, 0, 0, 1, 1}, inputs, "in 0", "in 1"))
	makes(t, streams(t, "p int = q", "q int = r", "r int = s + 1", "s int = a", "a int", "u int = p + q", "w int = u"), net(t, []int{2, 2, 2, 0, 0, 3, 3}, []int{api.Int}, "in 0", "1", "add 0 1", "add 2 2"))
	makes(t, streams(t, "s int = r", "r int = q", "q int = p", "p int = 5"), net(t, []int{0, 0, 0, 0}, nil, "5"))
	makes(t, streams(t, "y int = x", "x int = 0 -> pre y"), net(t, []int{2, 2}, nil, "0", "pre 2", "arrow 0 1"))
	makes(t, streams(t, "z int = y", "y int = x", "x int = pre z + y2", "y2 int = w", "w int = 3"), net(t, []int{1, 1, 1, 2, 2}, nil, "pre 1", "add 0 2", "3"))
	// Two that are written alike are two.
	makes(t, streams(t, "x int = 1 + 2", "y int = 1 + 2"), net(t, []int{2, 5}, nil, "1", "2", "add 0 1", "1", "2", "add 3 4"))
	// Any names will do, and any types.
	odd := []api.Stream{{Name: "", Type: -5}, {Name: "if", E: v("@1.a")}, {Name: "@1.a", Type: math.MaxInt, E: op(api.OpSub, v("A b"), v(" "))}, {Name: "A b", Type: math.MinInt, E: api.Expr{}}, {Name: " ", E: op(api.OpPre, v("if"))}}
	makes(t, odd, net(t, []int{0, 2, 2, 1, 3}, []int{-5, math.MinInt}, "in 0", "in 1", "sub 1 3", "pre 2"))
}

// Nodes need not stand in order: operators do.
func TestMakeOutOfOrder(t *testing.T) {
	a, b := v("a")[0], v("b")[0]
	of := func(e ...api.Node) []api.Stream {
		return append(streams(t, "a int", "b int"), api.Stream{Name: "x", E: e}, api.Stream{Name: "y", E: v("x")})
	}
	node := func(op int, a, b int) api.Node { return api.Node{Op: op, A: a, B: b, C: -1} }
	is := func(root int, l ...string) norm.Net {
		return net(t, []int{0, 1, root, root}, []int{api.Int, api.Int}, append([]string{"in 0", "in 1"}, l...)...)
	}
	makes(t, of(b, a, node(api.OpSub, 1, 0)), is(2, "sub 0 1"))
	makes(t, of(b, node(api.OpNeg, 0, -1), a, node(api.OpNot, 2, -1), node(api.OpSub, 3, 1)), is(4, "not 0", "neg 1", "sub 2 3"))
	makes(t, of(number(1)[0], number(2)[0], number(3)[0], api.Node{Op: api.OpIf, A: 2, B: 0, C: 1}), is(5, "3", "1", "2", "if 2 3 4"))
	makes(t, of(number(4)[0], b, node(api.OpPre, 1, -1), number(5)[0], node(api.OpArrow, 3, 2), node(api.OpSub, 4, 0)), is(6, "5", "pre 1", "arrow 2 3", "4", "sub 4 5"))
}

func TestMakeFaults(t *testing.T) {
	a := v("a")[0]
	good := streams(t, "a int", "y int = a + 1")
	round := streams(t, "q int = q")
	call := func(name string, l ...api.Expr) api.Expr { return tree.Join(api.OpCall, 0, name, l...) }
	for i, e := range []api.Expr{
		{{}}, {a, a}, {{Op: api.OpVar, A: -1, B: -1, C: -1}}, {{Op: api.OpVar, Name: "a"}}, {a, {Op: api.OpNot, A: 0}}, {{Op: 29, A: -1, B: -1, C: -1}}, {{Op: 0, A: -1, B: -1, C: -1}}, {a, {Op: api.OpArgs, A: 0, B: -1, C: -1}}, {a, {Op: api.OpAdd, A: 0, B: 0, C: -1}}, {a, {Op: api.OpNot, A: 5, B: -1, C: -1}}, {a, {Op: api.OpPre, A: math.MinInt, B: -1, C: -1}},
		nots(40, v("a")), append(sum(2500, func(int) api.Expr { return v("a") }), a, api.Node{Op: api.OpAdd, A: 4998, B: 4999, C: -1}), number(1 << 31), number(-1), tree.Join(api.OpBool, 2, ""),
		call("a"), call("f", v("a")), op(api.OpAdd, v("a"), call("x")), op(api.OpPre, call("a", v("a"), v("a"))), v("z"), op(api.OpPre, v("z")), op(api.OpAdd, v("a"), v("")), op(api.OpNot, v("a ")),
		// Operators of the past.
		read(t, "once a"), read(t, "hist a"), read(t, "prev a"), read(t, "within 0 a"), read(t, "within 3 a"), read(t, "a since a"), read(t, "1 + (once a)"), read(t, "pre prev a"), read(t, "0 -> pre within 1 a"), read(t, "if a then hist a else a"), {a, {Op: api.OpOnce, A: 0, B: -1, C: -1, N: 1}}, read(t, "once z"), read(t, "f(once a)"),
	} {
		for at := range 3 {
			l := slices.Insert(slices.Clone(good), at, api.Stream{Name: "x", E: e})
			fails(t, "case "+strconv.Itoa(i), l, api.ErrArg)
			// It goes ahead of streams that go round.
			fails(t, "case "+strconv.Itoa(i), append(round, l...), api.ErrArg)
			fails(t, "case "+strconv.Itoa(i), append(l, round...), api.ErrArg)
		}
	}
	fails(t, "twice", streams(t, "a int", "a int"), api.ErrArg)
	fails(t, "twice", streams(t, "a int", "b int", "a bool = b"), api.ErrArg)
	fails(t, "twice", streams(t, "x int = 1", "y int = x", "x int = 1"), api.ErrArg)
	fails(t, "twice, round", streams(t, "x int = x", "x int = x"), api.ErrArg)
	for _, l := range [][]string{
		{"x int = x"}, {"x int = y", "y int = x"}, {"x int = y", "y int = z", "z int = x"}, {"x int = y", "y int = y"}, {"x int = not x"}, {"x int = y + 1", "y int = x"}, {"a int", "x int = y", "y int = a + z", "z int = 0 -> x"}, {"x int = pre x + x"}, {"x int = 0 * x"}, {"x int = x -> 1"}, {"x int = if x then 1 else 2"}, {"x int = 1", "y int = pre y", "z int = pre y + z"}, {"x int = pre y", "y int = z", "z int = y"},
	} {
		fails(t, strings.Join(l, "; "), streams(t, l...), api.ErrCycle)
	}
	// What an operator of the past would end goes round no less; but it is not asked.
	fails(t, "prev", streams(t, "x bool = prev x"), api.ErrArg)
	fails(t, "once", streams(t, "x bool = once x"), api.ErrArg)
	// Faults of instants are no matter.
	makes(t, streams(t, "x int = 1 div 0", "y int = 2147483647 + 1"), net(t, []int{2, 5}, nil, "1", "0", "div 0 1", "2147483647", "1", "add 3 4"))
}

// Rows of streams, up to all that there may be; and nets that are too large.
func TestMakeMany(t *testing.T) {
	began := time.Now()
	var l []api.Stream
	for i := range 4001 {
		l = append(l, api.Stream{Name: strconv.Itoa(i), E: v(strconv.Itoa(i + 1))})
	}
	fails(t, "4001 streams", l, api.ErrArg)
	l = l[:4000]
	fails(t, "no last one", l, api.ErrArg)
	l[3999].E = v("0")
	fails(t, "round", l, api.ErrCycle)
	l[3999].E = nil
	n, f := norm.Make(l)
	if f != api.OK || !slices.Equal(n.Ops, []norm.Op{o(api.OpVar, 0)}) || !slices.Equal(n.Roots, make([]int, 4000)) || len(n.Inputs) != 1 {
		t.Errorf("P14.2: %s, %d", short(n), f)
	}
	slices.Reverse(l)
	if again, f := norm.Make(l); f != api.OK || !same(again, n) {
		t.Errorf("P14.2: %s, %d", short(again), f)
	}
	// 4000 streams of 25 operators are 100000; one of them more is one too many, but made.
	for i := range l {
		l[i].E = sum(13, func(k int) api.Expr { return number(k) })
	}
	n, f = norm.Make(l)
	if f != api.OK || len(n.Ops) != 100000 || norm.Check(n) != api.OK || n.Roots[3999] != 99999 || n.Roots[0] != 24 || n.Ops[99999] != o(api.OpAdd, 0, 99985, 99998) {
		t.Errorf("P14.3: %d operators, %d", len(n.Ops), f)
	}
	l[17].E = op(api.OpNot, l[17].E)
	n, f = norm.Make(l)
	if f != api.OK || len(n.Ops) != 100001 || norm.Check(n) != api.ErrArg || n.Roots[3999] != 100000 || n.Roots[17] != 450 || n.Roots[16] != 424 {
		t.Errorf("P14.3: %d operators, %d", len(n.Ops), f)
	}
	// Great expressions.
	for i := range 60 {
		l[i].E = sum(2500, func(k int) api.Expr { return v(l[(i+1+k%3)%60+60].Name) })
	}
	n, f = norm.Make(l)
	if f != api.OK || len(n.Ops) != 60*2499+3940*25 || n.Roots[59] != 60*2499-1 {
		t.Errorf("P14.2: %d operators, %d", len(n.Ops), f)
	}
	if took := time.Since(began); took > time.Minute {
		t.Errorf("%v", took)
	}
}

// A program, all the way through the layers below.
func TestMakeProgram(t *testing.T) {
	p, f := prog.Parse("node count(b: bool) returns (c: int) let c = (0 -> pre c) + if b then 1 else 0; tel " +
		"node f(a: int) returns (x: int) let x = count(once (a > 2)) - 1; tel main f;")
	if f.Code != api.OK {
		t.Fatal(f)
	}
	l, e := flat.Make(p, "f")
	if e != api.OK {
		t.Fatal(e)
	}
	fails(t, "the past", l, api.ErrArg)
	l, _ = past.Free(l)
	// a, x, #1.b, #1.c, @1.a, @1
	makes(t, l, net(t, []int{0, 2, 15, 9, 11, 15}, []int{api.Int}, "in 0",
		"1", "sub 9 1",
		"0", "pre 9", "arrow 3 4", "1", "0", "if 15 6 7", "add 5 8",
		"2", "lt 10 0",
		"false", "pre 15", "arrow 12 13", "or 11 14"))
}
