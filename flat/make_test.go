package flat_test

import (
	"fmt"
	"regexp"
	"slices"
	"strconv"
	"strings"
	"testing"

	"bailment/api"
	"bailment/expr"
	"bailment/flat"
	"bailment/prog"
	"bailment/tree"
)

func v(name string) api.Expr { return tree.Join(api.OpVar, 0, name) }

func number(n int) api.Expr { return tree.Join(api.OpNum, n, "") }

func op(op int, parts ...api.Expr) api.Expr { return tree.Join(op, 0, "", parts...) }

func call(name string, parts ...api.Expr) api.Expr { return tree.Join(api.OpCall, 0, name, parts...) }

// sum is one of n parts that is not deep.
func sum(n int, part func(i int) api.Expr) api.Expr {
	next := 0
	var of func(n int) api.Expr
	of = func(n int) api.Expr {
		if n == 1 {
			next++
			return part(next - 1)
		}
		a := of(n / 2)
		return op(api.OpAdd, a, of(n-n/2))
	}
	return of(n)
}

// nots are so many over an expression.
func nots(n int, e api.Expr) api.Expr {
	for range n {
		e = op(api.OpNot, e)
	}
	return e
}

// short is the beginning of what a thing is as a text.
func short(x any) string {
	s := fmt.Sprint(x)
	return s[:min(len(s), 600)]
}

var (
	made = regexp.MustCompile(`#(\d+)\.`)
	kept = regexp.MustCompile(`^q(\d+)_`)
)

// read is an expression in which streams of calls may stand.
func read(t *testing.T, s string) api.Expr {
	t.Helper()
	e, f := expr.Read(made.ReplaceAllString(s, "q${1}_"))
	if f.Code != api.OK {
		t.Fatalf("%q: %v", s, f)
	}
	for i, n := range e {
		e[i].Name = kept.ReplaceAllString(n.Name, "#$1.")
	}
	return e
}

// streams are read from texts such as "a int" and "c bool = #1.c".
func streams(t *testing.T, l ...string) []api.Stream {
	t.Helper()
	var out []api.Stream
	for _, s := range l {
		head, e, is := strings.Cut(s, " = ")
		name, kind, _ := strings.Cut(head, " ")
		x := api.Stream{Name: name, Type: map[string]int{"bool": api.Bool, "int": api.Int}[kind]}
		if is {
			x.E = read(t, e)
		}
		out = append(out, x)
	}
	return out
}

func source(t *testing.T, s string) api.Prog {
	t.Helper()
	p, f := prog.Parse(s)
	if f.Code != api.OK {
		t.Fatalf("%.300q: %v", s, f)
	}
	return p
}

func same(a, b api.Stream) bool {
	return a.Name == b.Name && a.Type == b.Type && slices.Equal(a.E, b.E)
}

// makes tells what a node of a program is made of.
func makes(t *testing.T, p api.Prog, node string, want []api.Stream) {
	t.Helper()
	before := fmt.Sprint(p)
	for range 2 {
		l, f := flat.Make(p, node)
		if f != api.OK || !slices.EqualFunc(l, want, same) {
			t.Fatalf("P12.2: %s of %s: %s, %d, not %s", node, short(p), short(l), f, short(want))
		}
		for i := range l {
			for k := range l[i].E {
				l[i].E[k].N++ // nobody else's memory
			}
			l[i].E = append(l[i].E, api.Node{Name: "more"})
		}
	}
	if fmt.Sprint(p) != before {
		t.Fatalf("R5: %s is changed", before)
	}
}

func fails(t *testing.T, p api.Prog, node string, want api.Errno) {
	t.Helper()
	for range 2 {
		if l, f := flat.Make(p, node); f != want || l != nil {
			t.Errorf("P12.2: %q of %s: %s, %d, not %d", node, short(p), short(l), f, want)
		}
	}
}

func TestWithoutCalls(t *testing.T) {
	p := source(t, "node f() returns (c: int) let c = 1; tel node g(a: int; b: bool) returns (d: bool) var x: int; y: bool; let y = b or x < 1; d = y -> pre d; x = a + 1; tel main f; fallback f;")
	makes(t, p, "f", streams(t, "c int = 1"))
	makes(t, p, "g", streams(t, "a int", "b bool", "d bool = y -> pre d", "x int = a + 1", "y bool = b or x < 1"))
	// Types are not looked at, nor whether there is an order, nor a beginning.
	p = source(t, "node f(a: bool) returns (c: int) var d: bool; let c = c + d; d = pre 1; tel main f;")
	makes(t, p, "f", streams(t, "a bool", "c int = c + d", "d bool = pre 1"))
	// A contract is no matter.
	p = source(t, "contract k(x: int) ghost g: int = x; guarantee g > 0; end node f(a: int) returns (c: int) contract import k(a); mode m require a > 0 ensure c > 0; end let c = a; tel main f;")
	makes(t, p, "f", streams(t, "a int", "c int = a"))
}

func TestCalls(t *testing.T) {
	const f, g = "node f(a: int; b: bool) returns (c: int) var x: int; let x = a + 1; c = if b then x else a; tel ", "node g() returns (o: bool) let o = true -> pre not o; tel "
	of := func(n int, a, b string) []string {
		p := fmt.Sprintf("#%d.", n)
		return []string{p + "a int = " + a, p + "b bool = " + b, fmt.Sprintf("%sc int = if %sb then %sx else %sa", p, p, p, p), fmt.Sprintf("%sx int = %sa + 1", p, p)}
	}
	gs := func(n int) []string {
		return []string{fmt.Sprintf("#%d.o bool = true -> pre not #%d.o", n, n)}
	}
	for _, c := range []struct {
		body  string
		first []string
		calls [][]string
	}{
		{"let d = f(i, true);", []string{"d int = #1.c"}, [][]string{of(1, "i", "true")}},
		{"let d = f(1 + i, g()) * 2;", []string{"d int = #2.c * 2"}, [][]string{gs(1), of(2, "1 + i", "#1.o")}},
		{"let d = f(f(i, true), false);", []string{"d int = #2.c"}, [][]string{of(1, "i", "true"), of(2, "#1.c", "false")}},
		{"let d = f(f(1, g()) + f(2, g()), g());", []string{"d int = #6.c"}, [][]string{gs(1), of(2, "1", "#1.o"), gs(3), of(4, "2", "#3.o"), gs(5), of(6, "#2.c + #4.c", "#5.o")}},
		{"let d = 0 -> pre f(d, prev g());", []string{"d int = 0 -> pre #2.c"}, [][]string{gs(1), of(2, "d", "prev #1.o")}},
		{"var u: bool; w: int; let w = f(w, u); u = g(); d = f(d, g());", []string{"d int = #2.c", "u bool = #3.o", "w int = #4.c"}, [][]string{gs(1), of(2, "d", "#1.o"), gs(3), of(4, "w", "u")}},
		{"let d = if g() then f(i, g()) else f(i, not g());", []string{"d int = if #1.o then #3.c else #5.c"}, [][]string{gs(1), gs(2), of(3, "i", "#2.o"), gs(4), of(5, "i", "not #4.o")}},
		{"let d = f(i, i < 1) - (f(i, i > 1) - i);", []string{"d int = #1.c - (#2.c - i)"}, [][]string{of(1, "i", "i < 1"), of(2, "i", "i > 1")}},
	} {
		p := source(t, f+g+"node h(i: int) returns (d: int) "+c.body+" tel main h;")
		makes(t, p, "h", streams(t, slices.Concat([]string{"i int"}, c.first, slices.Concat(c.calls...))...))
	}
}

// Calls in what is called stand behind those that wait; all are counted on.
func TestCallsInCalls(t *testing.T) {
	p := source(t, "node f(a: int) returns (c: int) let c = a + 1; tel "+
		"node g(a: int) returns (c: int) var x: int; let c = f(a) + x; x = f(f(a)); tel "+
		"node h(a: int) returns (d: int) let d = g(f(a)) + g(1) + f(2); tel main h;")
	makes(t, p, "g", streams(t, "a int", "c int = #1.c + x", "x int = #3.c", "#1.a int = a", "#1.c int = #1.a + 1", "#2.a int = a", "#2.c int = #2.a + 1", "#3.a int = #2.c", "#3.c int = #3.a + 1"))
	makes(t, p, "h", streams(t, "a int", "d int = #2.c + #3.c + #4.c",
		"#1.a int = a", "#1.c int = #1.a + 1",
		"#2.a int = #1.c", "#2.c int = #5.c + #2.x", "#2.x int = #7.c",
		"#3.a int = 1", "#3.c int = #8.c + #3.x", "#3.x int = #10.c",
		"#4.a int = 2", "#4.c int = #4.a + 1",
		"#5.a int = #2.a", "#5.c int = #5.a + 1", "#6.a int = #2.a", "#6.c int = #6.a + 1", "#7.a int = #6.c", "#7.c int = #7.a + 1",
		"#8.a int = #3.a", "#8.c int = #8.a + 1", "#9.a int = #3.a", "#9.c int = #9.a + 1", "#10.a int = #9.c", "#10.c int = #10.a + 1"))
	// Streams of a name, and nodes of their name, are not mixed up.
	p = source(t, "node a(a: int) returns (b: int) var c: int; let b = a; c = b; tel node b(b: int) returns (a: int) var c: int; let a = a(b) + c; c = a(a); tel node c(c: int) returns (b: int) var a: int; let b = b(a); a = c; tel main c;")
	makes(t, p, "c", streams(t, "c int", "b int = #1.a", "a int = c", "#1.b int = a", "#1.a int = #2.b + #1.c", "#1.c int = #3.b",
		"#2.a int = #1.b", "#2.b int = #2.a", "#2.c int = #2.b", "#3.a int = #1.a", "#3.b int = #3.a", "#3.c int = #3.b"))
}

// Nodes need not stand in order; calls are counted in order, and streams are in order.
func TestOutOfOrder(t *testing.T) {
	f := api.Unit{Name: "f", In: []api.Param{{Name: "a", Type: api.Int}}, Out: api.Param{Name: "c", Type: api.Int}, Eqs: []api.Equation{{Name: "c", E: v("a")}}}
	node := func(op int, a, b int) api.Node { return api.Node{Op: op, A: a, B: b, C: -1} }
	called := func(a int) api.Node { return api.Node{Op: api.OpCall, A: a, B: -1, C: -1, Name: "f"} }
	g := f
	g.Name = "g"
	// Sub of f(1) and f(2), the second one ahead.
	g.Eqs = []api.Equation{{Name: "c", E: api.Expr{number(2)[0], number(1)[0], node(api.OpArgs, 0, -1), called(2), node(api.OpArgs, 1, -1), called(4), node(api.OpSub, 5, 3)}}}
	makes(t, api.Prog{Units: []api.Unit{f, g}, Main: "g"}, "g", streams(t, "a int", "c int = #1.c - #2.c", "#1.a int = 1", "#1.c int = #1.a", "#2.a int = 2", "#2.c int = #2.a"))
	// Sub of 1 and 2, and a.
	g.Eqs = []api.Equation{{Name: "c", E: api.Expr{v("a")[0], number(2)[0], number(1)[0], node(api.OpSub, 2, 1), node(api.OpSub, 3, 0)}}}
	makes(t, api.Prog{Units: []api.Unit{g}, Main: "g"}, "g", streams(t, "a int", "c int = 1 - 2 - a"))
}

func TestMakeFaults(t *testing.T) {
	const f, k = "node f(a: int) returns (c: int) let c = a; tel ", "contract k(a: int) assume a > 0; end "
	good := source(t, k+f+"node g(a: int) returns (c: int) let c = f(a); tel main f;")
	for _, name := range []string{"", "k", "h", "a", "c", "F", "f ", "main", "#1", "ff"} {
		fails(t, good, name, api.ErrName)
	}
	for _, name := range []string{"f", "g"} {
		if _, e := flat.Make(good, name); e != api.OK {
			t.Errorf("P12.2: %q: %d", name, e)
		}
	}
	// A program's own fault is told ahead of that, whatever stands in that node.
	for s, want := range map[string]api.Errno{
		f + f + "main f;": api.ErrTwice, f + "main h;": api.ErrName, f + "main f; fallback h;": api.ErrCall, f + "node g() returns (c: int) let c = h(1); tel main f;": api.ErrCall, f + "node g() returns (c: int) let c = f(); tel main f;": api.ErrCall, f + "node g() returns (c: int) let c = z; tel main f;": api.ErrName, f + "node g() returns (c: int) let tel main f;": api.ErrName, f + "node g() returns (c: int) contract ghost x: int = 1; end let c = x; tel main f;": api.ErrGhost, f + "node g(a: int) returns (a: int) let a = 1; tel main f;": api.ErrTwice, "node f() returns (c: int) let c = f(); tel main f;": api.ErrCall,
		k + k + f + "main f;": api.ErrTwice, f + "contract q(a: int) import k(a); end main f;": api.ErrName,
	} {
		for _, name := range []string{"f", "g", "h", ""} {
			fails(t, source(t, s), name, want)
		}
	}
	for _, p := range []api.Prog{{}, {Main: "f"}, {Main: "F", Units: good.Units}, {Main: "f", Units: append(slices.Clone(good.Units), api.Unit{})}, {Main: "f", Units: []api.Unit{{Name: "f", Out: api.Param{Name: "c", Type: api.Int}, Eqs: []api.Equation{{Name: "c"}}}}}} {
		want := api.ErrArg
		if p.Main == "f" && p.Units == nil {
			want = api.ErrName
		}
		for _, name := range []string{"f", "q"} {
			fails(t, p, name, want)
		}
	}
	many := slices.Repeat([]api.Item{{Kind: api.Assume, E: v("a")}}, 150)
	full := source(t, k+f+"main f;")
	full.Units[0].Items = many
	full.Units[1].Items = slices.Repeat([]api.Item{{Kind: api.Import, Name: "k", Args: []api.Expr{v("a")}}}, 2)
	fails(t, full, "f", api.ErrMany)
	fails(t, full, "h", api.ErrMany)
}

// node is one without inputs, that has a Var for each expression but the first one.
func node(name string, l ...api.Expr) api.Unit {
	u := api.Unit{Name: name, Out: api.Param{Name: "c", Type: api.Int}}
	for i, e := range l {
		q := api.Equation{Name: "c", E: e}
		if i > 0 {
			q.Name = "x" + strconv.Itoa(i)
			u.Vars = append(u.Vars, api.Param{Name: q.Name, Type: api.Int})
		}
		u.Eqs = append(u.Eqs, q)
	}
	return u
}

// counts tells how many streams there are, or that there are too many.
func counts(t *testing.T, what string, want int, units ...api.Unit) {
	t.Helper()
	name := units[len(units)-1].Name
	l, f := flat.Make(api.Prog{Units: units, Main: name}, name)
	if want > 4000 && (f != api.ErrMany || l != nil) || want <= 4000 && (f != api.OK || len(l) != want) {
		t.Errorf("P12.2: %s: %d, %d, not %d", what, len(l), f, want)
	}
}

func TestManyStreams(t *testing.T) {
	one := node("f", number(1))
	calls := func(name string, n int) api.Expr { return sum(n, func(int) api.Expr { return call(name) }) }
	for _, n := range []int{1, 2, 1997, 1998, 1999, 2000, 2500} {
		counts(t, "one by one", 2+2000+n, one, node("g", calls("f", 2000), calls("f", n)))
		counts(t, "one by one", 2+2000+n, one, node("g", calls("f", n), calls("f", 2000)))
	}
	// What waits counts with all that it is made of.
	two, inputs := node("f", number(1), number(2)), node("f", number(1))
	inputs.In = []api.Param{{Name: "a", Type: api.Int}, {Name: "b", Type: api.Int}}
	for _, n := range []int{1, 1998, 1999, 2000, 2001, 2500} {
		counts(t, "of two", 1+2*n, two, node("g", calls("f", n)))
		counts(t, "of two", 2+2*n, two, node("g", calls("f", n), number(1)))
	}
	threes := func(n int) api.Expr { return sum(n, func(int) api.Expr { return call("f", number(1), v("c")) }) }
	counts(t, "of three", 1+3*833, inputs, node("g", threes(833)))
	for _, n := range []int{1, 831, 832, 833} {
		counts(t, "of three", 2+3*(500+n), inputs, node("g", threes(500), threes(n)))
	}
	// A call in a call counts, too: so much in all that a million would wait.
	deep := []api.Unit{node("f0", number(1))}
	for i := 1; i < 150; i++ {
		deep = append(deep, node("f"+strconv.Itoa(i), calls("f"+strconv.Itoa(i-1), 2)))
		counts(t, "twice each", 1<<min(i+1, 20)-1, deep...)
	}
	wide := []api.Unit{node("f0", number(1))}
	for i := 1; i < 100; i++ {
		wide = append(wide, node("f"+strconv.Itoa(i), calls("f"+strconv.Itoa(i-1), 1)))
		counts(t, "once each", i+1, wide...)
	}
	long := node("f", slices.Repeat([]api.Expr{calls("e", 2500)}, 200)...)
	counts(t, "half a million calls", 4001, node("e", number(1)), long)
	counts(t, "and again", 4001, node("e", number(1)), long, node("g", calls("f", 2500)))
	// Nodes of 230 streams: 30 inputs, and 200 equations, which are as many as may be.
	padded := func(name string, e api.Expr, more int) api.Unit {
		return node(name, append([]api.Expr{e}, slices.Repeat([]api.Expr{number(1)}, more)...)...)
	}
	most := padded("f", number(1), 199)
	for i := range 30 {
		most.In = append(most.In, api.Param{Name: "i" + strconv.Itoa(i), Type: api.Bool})
	}
	args := slices.Repeat([]api.Expr{number(1)}, 30)
	ones := func(n int) api.Expr { return sum(n, func(int) api.Expr { return call("f", args...) }) }
	counts(t, "one of 230", 230, most)
	counts(t, "17 of 230", 3911, most, node("g", ones(17)))
	counts(t, "18 of 230", 4141, most, node("g", ones(18)))
	counts(t, "17 of 230, and 90", 4000, most, padded("g", ones(17), 89))
	counts(t, "17 of 230, and 91", 4001, most, padded("g", ones(17), 90))
	counts(t, "17 of 230, 89 and 1", 4000, most, padded("g", ones(17), 88), node("h", call("g")))
	counts(t, "17 of 230, 90 and 1", 4001, most, padded("g", ones(17), 89), node("h", call("g")))
}

// The longest expressions, and the deepest ones, may be arguments.
func TestGreatExpressions(t *testing.T) {
	f := node("f", v("a"))
	f.In = []api.Param{{Name: "a", Type: api.Int}}
	for i, e := range []api.Expr{sum(2499, func(int) api.Expr { return number(1) }), nots(37, number(1)), sum(1249, func(int) api.Expr { return nots(2, number(3)) })} {
		g := node("g", call("f", e))
		makes(t, api.Prog{Units: []api.Unit{f, g}, Main: "g"}, "g", []api.Stream{{Name: "c", Type: api.Int, E: v("#1.c")}, {Name: "#1.a", Type: api.Int, E: e}, {Name: "#1.c", Type: api.Int, E: v("#1.a")}})
		if len(e) < 1000 && i != 1 {
			t.Errorf("%d nodes", len(e))
		}
	}
}

func TestFind(t *testing.T) {
	l := []api.Stream{{Name: "a"}, {Name: "b", E: v("a")}, {Name: ""}, {Name: "#1.c"}, {Name: "b"}, {Name: "A"}, {Name: "aa"}}
	for name, want := range map[string]int{"a": 0, "b": 1, "": 2, "#1.c": 3, "A": 5, "aa": 6, "c": -1, "#1": -1, "B": -1, "a ": -1, "#2.c": -1} {
		if i := flat.Find(l, name); i != want {
			t.Errorf("P12.1: %q: %d", name, i)
		}
		if i := flat.Find(nil, name); i != -1 {
			t.Errorf("P12.1: %q: %d", name, i)
		}
		if i := flat.Find([]api.Stream{{}}, name); (i == 0) != (name == "") {
			t.Errorf("P12.1: %q: %d", name, i)
		}
	}
}
