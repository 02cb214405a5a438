package inits_test

import (
	"math"
	"math/rand"
	"slices"
	"testing"

	"bailment/api"
	"bailment/expr"
	"bailment/inits"
	"bailment/tree"
)

func v(name string) api.Expr { return tree.Join(api.OpVar, 0, name) }

func op(op int, parts ...api.Expr) api.Expr { return tree.Join(op, 0, "", parts...) }

func call(parts ...api.Expr) api.Expr { return tree.Join(api.OpCall, 0, "f", parts...) }

// is tells from which instant on an expression is, or its error.
func is(t *testing.T, e api.Expr, want int, fault api.Errno) {
	t.Helper()
	for range 2 {
		if got, f := inits.Of(e); got != want || f != fault {
			t.Fatalf("P10.1: %v: %d, %d; not %d, %d", e, got, f, want, fault)
		}
	}
}

// The kinds of operators: those that are from where their operands are on, and
// those whose operands must be from 0 on.
var (
	passes = []int{api.OpNot, api.OpNeg, api.OpAnd, api.OpOr, api.OpXor, api.OpImp, api.OpEq, api.OpNe, api.OpLt, api.OpLe, api.OpAdd, api.OpSub, api.OpMul, api.OpDiv, api.OpMod, api.OpIf}
	needs  = []int{api.OpSince, api.OpOnce, api.OpHist, api.OpPrev, api.OpWithin, api.OpCall, api.OpPre}
)

// counts are how many operands an operator may have.
func counts(o int) []int {
	switch {
	case o == api.OpCall:
		return []int{0, 1, 2, 3, 4}
	case o == api.OpIf:
		return []int{3}
	case o >= api.OpAnd && o <= api.OpSince:
		return []int{2}
	}
	return []int{1}
}

// combined calls with all lists of so many operands, that are from 0 or 1 on;
// each one is of one of the ways in which it may be so.
func combined(count int, with func(parts []api.Expr, from []int)) {
	zero := []api.Expr{v("a"), op(api.OpArrow, v("a"), op(api.OpPre, v("b"))), op(api.OpOnce, v("a")), call(v("a"), v("b"))}
	one := []api.Expr{op(api.OpPre, v("a")), op(api.OpNot, op(api.OpPre, v("b"))), op(api.OpIf, v("a"), op(api.OpPre, call()), v("b")), op(api.OpPre, op(api.OpArrow, v("a"), op(api.OpPre, v("b"))))}
	for mask := range 1 << count {
		for way := range zero {
			var parts []api.Expr
			var from []int
			for i := range count {
				ways := [][]api.Expr{zero, one}[mask>>i&1]
				parts, from = append(parts, ways[(way+i)%len(ways)]), append(from, mask>>i&1)
			}
			with(parts, from)
		}
	}
}

// Each operator, with operands that are from 0 and from 1 on, in all places.
func TestOperators(t *testing.T) {
	seen := []int{api.OpNum, api.OpBool, api.OpVar, api.OpArrow, api.OpArgs}
	is(t, tree.Join(api.OpNum, 7, ""), 0, api.OK)
	is(t, tree.Join(api.OpNum, 1, ""), 0, api.OK)
	is(t, tree.Join(api.OpBool, 0, ""), 0, api.OK)
	is(t, tree.Join(api.OpBool, 1, ""), 0, api.OK)
	is(t, v("a"), 0, api.OK)
	for _, o := range passes {
		seen = append(seen, o)
		for _, count := range counts(o) {
			combined(count, func(parts []api.Expr, from []int) { is(t, op(o, parts...), slices.Max(from), api.OK) })
		}
	}
	for _, o := range needs {
		seen = append(seen, o)
		own := 0
		if o == api.OpPre {
			own = 1
		}
		for _, count := range counts(o) {
			combined(count, func(parts []api.Expr, from []int) {
				e := op(o, parts...)
				if o == api.OpCall {
					e = call(parts...)
				}
				if slices.Contains(from, 1) {
					is(t, e, 0, api.ErrInit)
				} else {
					is(t, e, own, api.OK)
				}
			})
		}
	}
	combined(2, func(parts []api.Expr, from []int) {
		is(t, op(api.OpArrow, parts...), 0, map[int]api.Errno{0: api.OK, 1: api.ErrInit}[from[0]])
	})
	for _, n := range []int{0, 1, 1000} {
		is(t, tree.Join(api.OpWithin, n, "", v("a")), 0, api.OK)
		is(t, tree.Join(api.OpWithin, n, "", op(api.OpPre, v("a"))), 0, api.ErrInit)
	}
	for o := api.OpNum; o <= api.OpArgs; o++ {
		if !slices.Contains(seen, o) {
			t.Errorf("operator %d is not asked for", o)
		}
	}
}

func TestByHand(t *testing.T) {
	for s, want := range map[string]struct {
		from  int
		fault api.Errno
	}{
		"pre a": {1, 0}, "0 -> pre a": {0, 0}, "pre pre a": {0, api.ErrInit}, "pre (0 -> pre a)": {1, 0}, "0 -> pre (0 -> pre a)": {0, 0}, "pre (a -> pre pre b)": {0, api.ErrInit},
		"0 -> pre c + 1": {0, 0}, "(0 -> pre c) + 1": {0, 0}, "pre c + 1": {1, 0}, "1 + pre c * 2 > a": {1, 0}, "pre a -> 0": {0, api.ErrInit}, "(pre a -> 0) -> 0": {0, api.ErrInit}, "0 -> (pre a -> 0)": {0, api.ErrInit}, "0 -> 0 -> pre a": {0, 0}, "0 -> pre a -> pre a": {0, api.ErrInit}, "(0 -> pre a) -> pre b": {0, 0},
		"pre (a + b)": {1, 0}, "pre (a + pre b)": {0, api.ErrInit}, "pre a + pre b": {1, 0}, "not pre b and pre c": {1, 0}, "- - pre a": {1, 0}, "pre - - pre a": {0, api.ErrInit}, "pre pre pre a": {0, api.ErrInit},
		"if pre b then a else c": {1, 0}, "if b then pre a else c": {1, 0}, "if b then a else pre c": {1, 0}, "if b then 0 -> pre a else c": {0, 0}, "0 -> if pre b then pre a else pre c": {0, 0}, "if pre pre b then a else c": {0, api.ErrInit}, "if b then once pre a else c": {0, api.ErrInit}, "if b then a else prev pre c": {0, api.ErrInit},
		"prev b": {0, 0}, "prev prev prev b": {0, 0}, "pre prev b": {1, 0}, "prev pre b": {0, api.ErrInit}, "once (true -> pre b)": {0, 0}, "hist not pre b": {0, api.ErrInit}, "within 3 (a > pre a)": {0, api.ErrInit}, "within 3 (a > 0)": {0, 0}, "pre within 0 b": {1, 0}, "a since b": {0, 0}, "pre a since b": {0, api.ErrInit}, "a since pre b": {0, api.ErrInit}, "pre (a since b)": {1, 0}, "true -> a since pre b": {0, api.ErrInit}, "a since (b -> pre b)": {0, 0},
		"f()": {0, 0}, "pre f()": {1, 0}, "f(pre a)": {0, api.ErrInit}, "f(a, b, c)": {0, 0}, "f(pre a, b, c)": {0, api.ErrInit}, "f(a, pre b, c)": {0, api.ErrInit}, "f(a, b, pre c)": {0, api.ErrInit}, "f(a, b, 0 -> pre c)": {0, 0}, "0 -> f(pre a)": {0, api.ErrInit}, "f(f(pre a), b)": {0, api.ErrInit}, "f(a, 1 + pre b * 2)": {0, api.ErrInit}, "pre f(a, pre b)": {0, api.ErrInit}, "f(a) + pre f(b)": {1, 0}, "f(if b then a else pre a, 1)": {0, api.ErrInit},
		// It does not matter where in an expression it is.
		"a + (0 -> pre pre b)": {0, api.ErrInit}, "(pre pre a) + 1": {0, api.ErrInit}, "pre a + pre pre b": {0, api.ErrInit}, "pre pre a + pre b": {0, api.ErrInit}, "0 -> pre pre a": {0, api.ErrInit},
	} {
		e, fault := expr.Read(s)
		if fault.Code != api.OK {
			t.Fatalf("%q: %v", s, fault)
		}
		is(t, e, want.from, want.fault)
	}
}

// Of is told of the last node, however the nodes stand.
func TestOrder(t *testing.T) {
	a, b := v("a")[0], v("b")[0]
	pre := func(a int) api.Node { return api.Node{Op: api.OpPre, A: a, B: -1, C: -1} }
	args := func(a, b int) api.Node { return api.Node{Op: api.OpArgs, A: a, B: b, C: -1} }
	is(t, api.Expr{a, b, pre(0), {Op: api.OpArrow, A: 1, B: 2, C: -1}}, 0, api.OK)
	is(t, api.Expr{a, b, pre(0), {Op: api.OpArrow, A: 2, B: 1, C: -1}}, 0, api.ErrInit)
	is(t, api.Expr{b, a, pre(1), {Op: api.OpArrow, A: 0, B: 2, C: -1}}, 0, api.OK)
	is(t, api.Expr{b, pre(0), a, {Op: api.OpArrow, A: 2, B: 1, C: -1}, pre(3)}, 1, api.OK)
	is(t, api.Expr{a, b, pre(1), args(2, -1), args(0, 3), {Op: api.OpCall, A: 4, B: -1, C: -1, Name: "f"}}, 0, api.ErrInit)
	is(t, api.Expr{a, b, pre(1), args(0, -1), args(2, 3), {Op: api.OpCall, A: 4, B: -1, C: -1, Name: "f"}}, 0, api.ErrInit)
	is(t, api.Expr{a, b, pre(1), {Op: api.OpSub, A: 2, B: 0, C: -1}}, 1, api.OK)
}

// An expression that may not be is told ahead of all else.
func TestArg(t *testing.T) {
	a := v("a")[0]
	pre := func(a int) api.Node { return api.Node{Op: api.OpPre, A: a, B: -1, C: -1} }
	for i, e := range []api.Expr{
		nil, {}, {a, a}, {a, pre(0), pre(1), a}, {{Op: 0, A: -1, B: -1, C: -1}}, {{Op: 29, A: -1, B: -1, C: -1}}, {{Op: math.MaxInt, A: -1, B: -1, C: -1}}, {{Op: math.MinInt}}, {{Op: api.OpVar, Name: "a"}}, {pre(0)}, {a, pre(1)}, {a, pre(-1)}, {a, pre(7)}, {a, {Op: api.OpAdd, A: 0, B: 0, C: -1}},
		{a, {Op: api.OpArgs, A: 0, B: -1, C: -1}}, {a, pre(0), pre(1), {Op: api.OpArgs, A: 2, B: -1, C: -1}}, {a, {Op: api.OpCall, A: 0, B: -1, C: -1, Name: "f"}},
		tree.Join(api.OpBool, 2, ""), tree.Join(api.OpNum, -1, ""), tree.Join(api.OpWithin, 1001, "", v("b")), tree.Join(api.OpPre, 0, "x", v("b")), tree.Join(api.OpVar, 0, ""), tree.Join(api.OpPre, 0, "", tree.Join(api.OpPre, 1, "", v("b"))), deep(41, v("b")), deep(40, op(api.OpPre, v("b"))), wide(5001),
	} {
		if got, f := inits.Of(e); got != 0 || f != api.ErrArg {
			t.Errorf("P10.1: case %d: %d, %d", i, got, f)
		}
	}
	is(t, deep(40, v("b")), 0, api.OK)
	is(t, deep(39, op(api.OpPre, v("b"))), 1, api.OK)
	is(t, deep(38, op(api.OpPre, op(api.OpPre, v("b")))), 0, api.ErrInit)
	is(t, wide(4999), 0, api.OK)
	is(t, op(api.OpPre, wide(4999)), 1, api.OK)
}

// deep is an expression with Nots over it, so deep in all, if it has one node.
func deep(n int, e api.Expr) api.Expr {
	for range n - 1 {
		e = op(api.OpNot, e)
	}
	return e
}

// wide is a sum of so many nodes (an odd number), no deeper than it must be.
func wide(n int) api.Expr {
	if n == 1 {
		return v("a")
	}
	left := n / 2
	if left%2 == 0 {
		left--
	}
	return op(api.OpAdd, wide(left), wide(n-1-left))
}

// Any nodes at all have an answer: ErrArg just if they may not be.
func TestAnything(t *testing.T) {
	r := rand.New(rand.NewSource(12))
	whole, _ := expr.Read("if b then f(a, - a, pre b) else within 3 b since a < 1")
	fields := []int{-1, 0, 1, 2, 3, -2, 1 << 32, math.MinInt, math.MaxInt}
	seen := map[bool]int{}
	for range 50000 {
		e := slices.Clone(whole[:1+r.Intn(len(whole))])
		for range 1 + r.Intn(2) {
			n := &e[r.Intn(len(e))]
			n.Op = []int{n.Op, n.Op, r.Intn(31), fields[r.Intn(len(fields))]}[r.Intn(4)]
			*[]*int{&n.A, &n.B, &n.C, &n.N}[r.Intn(4)] = fields[r.Intn(len(fields))]
		}
		may := tree.May(e)
		seen[may]++
		if x, f := inits.Of(e); may == (f == api.ErrArg) || f != api.OK && x != 0 {
			t.Fatalf("R1, R3: %v: %d, %d", e, x, f)
		}
	}
	if seen[true] < 100 || seen[false] < 100 {
		t.Errorf("%v", seen)
	}
}
