package cause_test

import (
	"fmt"
	"math"
	"math/rand"
	"slices"
	"strconv"
	"testing"
	"time"

	"bailment/api"
	"bailment/cause"
	"bailment/expr"
	"bailment/prog"
	"bailment/tree"
)

func v(name string) api.Expr { return tree.Join(api.OpVar, 0, name) }

func op(op int, parts ...api.Expr) api.Expr { return tree.Join(op, 0, "", parts...) }

func call(name string, parts ...api.Expr) api.Expr { return tree.Join(api.OpCall, 0, name, parts...) }

// sum is one of n nodes (an odd number) that is not deep, of streams that are counted.
func sum(prefix string, n int) api.Expr {
	next := 0
	var of func(n int) api.Expr
	of = func(n int) api.Expr {
		if n == 1 {
			next++
			return v(prefix + strconv.Itoa(next))
		}
		left := n / 2
		if left%2 == 0 {
			left--
		}
		a := of(left)
		return op(api.OpAdd, a, of(n-1-left))
	}
	return of(n)
}

// nots are so many over an expression.
func nots(n int, e api.Expr) api.Expr {
	for range n {
		e = op(api.OpNot, e)
	}
	return e
}

// short is the beginning of what a thing is as a text.
func short(x any) string {
	s := fmt.Sprint(x)
	return s[:min(len(s), 500)]
}

// read is an expression that has no fault.
func read(t *testing.T, s string) api.Expr {
	t.Helper()
	e, f := expr.Read(s)
	if f.Code != api.OK {
		t.Fatalf("%q: %v", s, f)
	}
	return e
}

func needs(t *testing.T, e api.Expr, want ...string) {
	t.Helper()
	kept := slices.Clone(e)
	for range 2 {
		if got := cause.Needs(e); !slices.Equal(got, want) {
			t.Errorf("P11.1: %s: %s, not %s", short(e), short(got), short(want))
		}
	}
	if !slices.Equal(e, kept) {
		t.Errorf("R5: %v is changed", kept)
	}
}

func TestNeeds(t *testing.T) {
	for s, want := range map[string][]string{
		"1": nil, "true": nil, "a": {"a"}, "not a": {"a"}, "-a": {"a"}, "f()": nil, "f(a)": {"a"}, "a + 1": {"a"},
		"a + b": {"a", "b"}, "b + a": {"b", "a"}, "a + b + a + c + b": {"a", "b", "c"}, "c + b + a": {"c", "b", "a"}, "a + a": {"a"},
		"pre a": nil, "prev a": nil, "once a": {"a"}, "hist a": {"a"}, "within 3 a": {"a"}, "a since b": {"a", "b"}, "b since a": {"b", "a"}, "a -> b": {"a", "b"},
		"pre (a + b)": nil, "pre f(a, b)": nil, "prev (a and not b)": nil, "pre pre a": nil, "prev prev a": nil, "pre prev a": nil, "prev once a": nil, "once prev a": nil, "not not not pre not not a": nil,
		"a + pre b": {"a"}, "pre a + b": {"b"}, "pre a + a": {"a"}, "a + pre a": {"a"}, "pre a + pre b + pre c": nil, "a -> pre b": {"a"}, "pre a -> b": {"b"}, "pre (a -> b) -> c": {"c"}, "0 -> pre c + 1": nil, "pre c + c": {"c"},
		"a since prev b": {"a"}, "prev a since b": {"b"}, "prev (a since b)": nil, "pre b or prev b or b or a": {"b", "a"},
		"if a then b else c": {"a", "b", "c"}, "if pre a then b else c": {"b", "c"}, "if a then pre b else c": {"a", "c"}, "if a then b else pre c": {"a", "b"}, "if c then b else a": {"c", "b", "a"}, "pre (if a then b else c)": nil, "if prev a then pre b else 0": nil,
		"f(c, pre d, e)": {"c", "e"}, "f(pre c, d, pre e)": {"d"}, "f(g(a, b), c)": {"a", "b", "c"}, "f(pre g(a), b)": {"b"}, "f(pre a, g(pre b, h(c)))": {"c"}, "pre f(a) + g(b, pre f(c))": {"b"}, "a + f(f(f(f(a, b))))": {"a", "b"}, "f(b, a)": {"b", "a"},
		"a = b": {"a", "b"}, "a <> b": {"a", "b"}, "a < b": {"a", "b"}, "a >= b": {"b", "a"}, "a > b": {"b", "a"}, "a xor b": {"a", "b"}, "a => b": {"a", "b"}, "a div b mod c": {"a", "b", "c"},
	} {
		needs(t, read(t, s), want...)
	}
}

// Each operator, with streams in all its operands: Pre and Prev alone end what is needed.
func TestOperators(t *testing.T) {
	for o := api.OpNot; o <= api.OpIf; o++ {
		count := len(tree.Kids(api.Node{Op: o}))
		parts, want := []api.Expr{v("x"), v("y"), v("z")}[:count], []string{"x", "y", "z"}[:count]
		e := op(o, parts...)
		if !tree.May(e) {
			t.Fatalf("operator %d", o)
		}
		if o == api.OpPre || o == api.OpPrev {
			want = nil
		}
		needs(t, e, want...)
		// Behind it, and within it, all is as it was.
		needs(t, op(api.OpAnd, v("z"), op(api.OpOr, e, v("a"))), append(without(append([]string{"z"}, want...)), "a")...)
		for _, ends := range []int{api.OpPre, api.OpPrev} {
			needs(t, op(ends, e))
			needs(t, op(api.OpAnd, op(ends, e), v("q")), "q")
			if want != nil {
				parts := slices.Clone(parts)
				parts[count-1] = op(ends, parts[count-1])
				needs(t, op(o, parts...), want[:count-1]...)
			}
		}
	}
}

// without is a list in which each name stands once.
func without(l []string) []string {
	var out []string
	for _, x := range l {
		if !slices.Contains(out, x) {
			out = append(out, x)
		}
	}
	return out
}

// Nodes need not stand in order; the names are told in order.
func TestOutOfOrder(t *testing.T) {
	a, b := v("a")[0], v("b")[0]
	needs(t, api.Expr{b, a, {Op: api.OpAdd, A: 1, B: 0, C: -1}}, "a", "b")
	needs(t, api.Expr{b, a, {Op: api.OpAdd, A: 0, B: 1, C: -1}}, "b", "a")
	pre := func(k int) api.Node { return api.Node{Op: api.OpPre, A: k, B: -1, C: -1} }
	needs(t, api.Expr{b, a, pre(0), {Op: api.OpAdd, A: 1, B: 2, C: -1}}, "a")
	needs(t, api.Expr{b, a, pre(1), {Op: api.OpAdd, A: 2, B: 0, C: -1}}, "b")
	needs(t, api.Expr{b, b, a, pre(1), {Op: api.OpSub, A: 3, B: 2, C: -1}, {Op: api.OpSub, A: 4, B: 0, C: -1}}, "a", "b")
}

func TestNeedsOfWhatMayNotBe(t *testing.T) {
	a := v("a")[0]
	for i, e := range []api.Expr{
		nil, {}, {{}}, {a, a}, {{Op: api.OpVar, A: -1, B: -1, C: -1}}, {{Op: api.OpVar, Name: "a"}}, {a, {Op: api.OpNot, A: 0}}, {a, {Op: api.OpNot, A: 1, B: -1, C: -1}}, {{Op: 29, A: -1, B: -1, C: -1, Name: "a"}},
		{a, {Op: api.OpArgs, A: 0, B: -1, C: -1}}, {a, {Op: api.OpAdd, A: 0, B: 0, C: -1}}, {a, {Op: api.OpNot, A: -5, B: -1, C: -1}}, {a, {Op: api.OpNot, A: math.MaxInt, B: -1, C: -1}},
		nots(40, v("a")), append(sum("s", 4999), a, api.Node{Op: api.OpAdd, A: 4998, B: 4999, C: -1}), append(v("a"), api.Node{Op: api.OpWithin, A: 0, B: -1, C: -1, N: 1001}),
	} {
		if l := cause.Needs(e); len(l) != 0 {
			t.Errorf("P11.1: case %d: %q", i, l)
		}
	}
	needs(t, nots(39, v("a")), "a")
	var names []string
	for i := range 2500 {
		names = append(names, fmt.Sprint("s", i+1))
	}
	needs(t, sum("s", 4999), names...)
	needs(t, op(api.OpNot, sum("s", 4999)), names...)
	needs(t, op(api.OpPre, sum("s", 4999)))
}

// eqs are equations, by their names and their sources.
func eqs(t *testing.T, l ...string) []api.Equation {
	t.Helper()
	var out []api.Equation
	for i := 0; i < len(l); i += 2 {
		out = append(out, api.Equation{Name: l[i], E: read(t, l[i+1])})
	}
	return out
}

func order(t *testing.T, l []api.Equation, fault api.Errno, want ...int) {
	t.Helper()
	for range 2 {
		if got, f := cause.Order(l); !slices.Equal(got, want) || f != fault || fault != api.OK && got != nil {
			t.Errorf("P11.2: %s: %s, %d; not %s, %d", short(l), short(got), f, short(want), fault)
		}
	}
}

func TestOrder(t *testing.T) {
	is := func(want []int, l ...string) {
		t.Helper()
		order(t, eqs(t, l...), api.OK, want...)
	}
	round := func(l ...string) {
		t.Helper()
		order(t, eqs(t, l...), api.ErrCycle)
	}
	is(nil)
	is([]int{0}, "a", "1")
	is([]int{1, 0}, "x", "y", "y", "0 -> pre x")
	is([]int{0, 1, 2}, "a", "1", "b", "2", "c", "3")
	is([]int{0, 1, 2}, "a", "1", "b", "a", "c", "b")
	is([]int{2, 1, 0}, "a", "b", "b", "c", "c", "1")
	// The least one of those that may be taken, again and again.
	is([]int{1, 2, 0}, "a", "c", "b", "1", "c", "1")
	is([]int{1, 0, 2}, "a", "b", "b", "1", "c", "1")
	is([]int{2, 3, 1, 0}, "a", "b", "b", "d", "c", "1", "d", "1")
	is([]int{1, 3, 0, 2, 4}, "a", "d", "b", "1", "c", "d", "d", "b", "e", "1")
	is([]int{4, 0, 3, 1, 2}, "a", "e", "b", "d", "c", "d", "d", "a", "e", "1")
	is([]int{2, 3, 1, 0}, "a", "b + c", "b", "c + d", "c", "1", "d", "1")
	is([]int{1, 2, 0}, "a", "b + c + b", "b", "1", "c", "b")
	// What no equation has is no matter; what was there before neither.
	is([]int{0, 1}, "a", "z", "b", "y + z")
	is([]int{1, 0}, "a", "z + b", "b", "z")
	is([]int{0, 1}, "a", "0 -> pre b", "b", "0 -> pre a")
	is([]int{0}, "a", "0 -> pre a")
	is([]int{0}, "a", "prev a")
	is([]int{1, 0}, "a", "b + pre a", "b", "0 -> pre (a + b)")
	is([]int{1, 0}, "a", "f(b)", "b", "f(1)")
	// A call's name is no stream's; a unit's name neither.
	is([]int{0, 1}, "f", "f(1)", "g", "f(2)")
	is([]int{1, 0}, "f", "f(g)", "g", "f(2)")
	round("a", "a")
	round("a", "a + 1")
	round("a", "b", "b", "a")
	round("a", "b", "b", "c", "c", "a")
	round("a", "1", "b", "b")
	round("a", "1", "b", "c", "c", "b")
	round("a", "b", "b", "c", "c", "b", "d", "1")
	round("a", "once a")
	round("a", "a -> 1")
	round("a", "1 -> a")
	round("a", "pre a + a")
	round("a", "b", "b", "0 -> pre a + a")
	round("a", "f(a)")
	round("a", "if false then a else 1")
	round("a", "within 1 a")
	round("a", "a since true")
	round("a", "0 * b", "b", "0 * a")
	// Of a name that several have all are needed.
	is([]int{1, 2, 0}, "a", "b", "b", "1", "b", "2")
	is([]int{1, 3, 0, 2}, "a", "b", "b", "1", "c", "a", "b", "2")
	is([]int{0, 1}, "b", "1", "b", "2")
	is([]int{2, 1, 3, 0}, "a", "b", "b", "c", "c", "1", "b", "3")
	is([]int{1, 2, 4, 0, 3}, "a", "b + c", "b", "1", "c", "1", "a", "c + b", "b", "3")
	round("b", "1", "b", "b")
	round("b", "b", "b", "1")
	round("a", "b", "b", "1", "b", "a")
	// Names are texts of any kind.
	odd := []api.Equation{{Name: "#1.a", E: v("#2.a")}, {Name: "#2.a", E: v("")}, {Name: "", E: read(t, "1")}}
	order(t, odd, api.OK, 1, 0, 2)
	order(t, []api.Equation{{Name: "A B", E: v("if")}, {Name: "if", E: v("A B")}}, api.ErrCycle)
}

// What may not be needs nothing.
func TestOrderOfWhatMayNotBe(t *testing.T) {
	broken := api.Expr{v("a")[0], v("a")[0]}
	order(t, []api.Equation{{Name: "a", E: broken}}, api.OK, 0)
	order(t, []api.Equation{{Name: "a"}, {Name: "a"}, {}}, api.OK, 0, 1, 2)
	order(t, []api.Equation{{Name: "b", E: v("a")}, {Name: "a", E: broken}, {Name: "c", E: api.Expr{}}}, api.OK, 1, 0, 2)
	order(t, []api.Equation{{Name: "a", E: nots(40, v("a"))}}, api.OK, 0)
	order(t, []api.Equation{{Name: "a", E: nots(39, v("a"))}}, api.ErrCycle)
	order(t, make([]api.Equation, 3), api.OK, 0, 1, 2)
}

// counted are so many equations, each of which needs one.
func counted(n int, need func(i int) int) []api.Equation {
	var l []api.Equation
	for i := range n {
		l = append(l, api.Equation{Name: fmt.Sprint("s", i), E: v(fmt.Sprint("s", need(i)))})
	}
	return l
}

func TestManyEquations(t *testing.T) {
	all := func(n int) []int {
		l := make([]int, n)
		for i := range l {
			l[i] = i
		}
		return l
	}
	turned := all(4000)
	slices.Reverse(turned)
	up := func(i int) int { return i + 1 }
	order(t, counted(4000, up), api.OK, turned...)
	order(t, counted(4000, func(i int) int { return i - 1 }), api.OK, all(4000)...)
	order(t, counted(4000, func(i int) int { return (i + 1) % 4000 }), api.ErrCycle)
	order(t, counted(4000, func(i int) int { return min(i+1, 3999) }), api.ErrCycle)
	same := []api.Equation{{Name: "a", E: read(t, "1")}}
	order(t, slices.Repeat(same, 4000), api.OK, all(4000)...)
	// Too many are told ahead of all that they are.
	for _, n := range []int{4001, 4002, 5000, 100000} {
		order(t, slices.Repeat(same, n), api.ErrMany)
		order(t, make([]api.Equation, n), api.ErrMany)
		order(t, slices.Repeat(eqs(t, "a", "a"), n), api.ErrMany)
	}
	order(t, slices.Repeat(eqs(t, "a", "a"), 4000), api.ErrCycle)
	order(t, counted(4001, up), api.ErrMany)
}

// It takes a moment, however many need how many.
func TestTime(t *testing.T) {
	began := time.Now()
	long := sum("s", 4999)
	var l []api.Equation
	for i := range 4000 {
		q := api.Equation{Name: fmt.Sprint("t", i), E: long}
		if i > 3000 {
			q.Name = fmt.Sprint("s", 4000-i)
			q.E = v("z")
		}
		l = append(l, q)
	}
	got, f := cause.Order(l)
	if f != api.OK || len(got) != 4000 || got[0] != 3001 || got[998] != 3999 || got[999] != 0 || got[3999] != 3000 {
		t.Errorf("P11.2: %d, %d", len(got), f)
	}
	// One name that half of them have, and the other half needs.
	l = nil
	for i := range 4000 {
		q := api.Equation{Name: "a", E: v("z")}
		if i < 2000 {
			q = api.Equation{Name: "b", E: v("a")}
		}
		l = append(l, q)
	}
	got, f = cause.Order(l)
	if f != api.OK || len(got) != 4000 || got[0] != 2000 || got[1999] != 3999 || got[2000] != 0 || got[3999] != 1999 {
		t.Errorf("P11.2: %d, %d", len(got), f)
	}
	if took := time.Since(began); took > time.Minute {
		t.Errorf("%v", took)
	}
}

func checks(t *testing.T, p api.Prog, want api.Fault) {
	t.Helper()
	for range 2 {
		if f := cause.Check(p); f != want {
			t.Errorf("P11.3: %s: %v, not %v", short(p), f, want)
		}
	}
}

func TestCheck(t *testing.T) {
	const good, round = "node g() returns (c: int) let c = 0 -> pre c; tel ", "node b() returns (c: int) var x: int; let c = x; x = c; tel "
	const contract = "contract k(a: int) ghost g: int = g; assume g > 0; end "
	for s, want := range map[string]api.Fault{
		"main f;": {}, good + "main f;": {}, round + "main f;": {Code: api.ErrCycle}, good + round + "main b;": {Code: api.ErrCycle, At: 1}, good + good + good + round + round + "main b;": {Code: api.ErrCycle, At: 3}, round + good + "main g;": {Code: api.ErrCycle},
		contract + "main f;": {}, contract + round + good + round + "main f;": {Code: api.ErrCycle, At: 1}, contract + contract + good + "main f;": {},
		// Calls need what stands in them, whatever is called; nothing of items is looked at.
		"node f(a: int) returns (c: int) let c = f(c); tel main f;":                                              {Code: api.ErrCycle},
		"node f(a: int) returns (c: int) let c = 0 -> pre f(c); tel main f;":                                     {},
		"node f(a: int) returns (c: int) contract ghost x: int = x; guarantee c = x; end let c = a; tel main f;": {},
		"node f(a: int) returns (c: int) let tel main f;":                                                        {},
	} {
		p, f := prog.Parse(s)
		if f.Code != api.OK {
			t.Fatalf("%q: %v", s, f)
		}
		checks(t, p, want)
	}
	checks(t, api.Prog{}, api.Fault{})
	checks(t, api.Prog{Units: make([]api.Unit, 300)}, api.Fault{})
	many, cycle := slices.Repeat(eqs(t, "a", "1"), 4001), eqs(t, "a", "a")
	unit := func(l []api.Equation) api.Unit { return api.Unit{Eqs: l} }
	checks(t, api.Prog{Units: []api.Unit{{}, unit(many), unit(cycle)}}, api.Fault{Code: api.ErrMany, At: 1})
	checks(t, api.Prog{Units: []api.Unit{unit(many[1:]), {}, unit(cycle), unit(many)}}, api.Fault{Code: api.ErrCycle, At: 2})
	checks(t, api.Prog{Units: []api.Unit{{}, {Contract: true, Eqs: cycle}}}, api.Fault{Code: api.ErrCycle, At: 1})
	checks(t, api.Prog{Units: []api.Unit{{Items: []api.Item{{Kind: api.Ghost, Name: "a", E: v("a")}}}}}, api.Fault{})
}

// Nothing that is handed in makes a call panic, or go on without an end.
func TestAnything(t *testing.T) {
	r := rand.New(rand.NewSource(3))
	number := func() int {
		return []int{-1, -1, -1, r.Intn(4), r.Intn(9) - 2, math.MinInt, math.MaxInt}[r.Intn(7)]
	}
	for range 100000 {
		var p api.Prog
		for range r.Intn(3) {
			var u api.Unit
			for range r.Intn(4) {
				var e api.Expr
				for range r.Intn(6) {
					e = append(e, api.Node{Op: r.Intn(31) - 1, A: number(), B: number(), C: number(), N: r.Intn(3), Name: []string{"", "a", "b"}[r.Intn(3)]})
				}
				u.Eqs = append(u.Eqs, api.Equation{Name: []string{"", "a", "b"}[r.Intn(3)], E: e})
				if l := cause.Needs(e); len(l) > 0 && !tree.May(e) {
					t.Fatalf("P11.1: %v: %q", e, l)
				}
			}
			if l, f := cause.Order(u.Eqs); f == api.OK && len(l) != len(u.Eqs) || f != api.OK && (l != nil || f != api.ErrCycle) {
				t.Fatalf("P11.2: %v: %v, %d", u.Eqs, l, f)
			}
			p.Units = append(p.Units, u)
		}
		cause.Check(p)
	}
}
