package types_test

import (
	"math"
	"math/rand"
	"slices"
	"strings"
	"testing"

	"bailment/api"
	"bailment/expr"
	"bailment/tree"
	"bailment/types"
)

func v(name string) api.Expr { return tree.Join(api.OpVar, 0, name) }

func op(op int, parts ...api.Expr) api.Expr { return tree.Join(op, 0, "", parts...) }

func call(name string, parts ...api.Expr) api.Expr { return tree.Join(api.OpCall, 0, name, parts...) }

// every are the types of the language, and some that are types of their own.
var every = []int{api.Bool, api.Int, 0, -1, 3, 4, math.MinInt, math.MaxInt}

// said is what each operator takes and is: b Bool, i Int, x any type, the same
// one wherever it stands in the text.
var said = map[int]string{
	api.OpNum: ">i", api.OpBool: ">b",
	api.OpNot: "b>b", api.OpNeg: "i>i",
	api.OpAnd: "bb>b", api.OpOr: "bb>b", api.OpXor: "bb>b", api.OpImp: "bb>b", api.OpSince: "bb>b",
	api.OpOnce: "b>b", api.OpHist: "b>b", api.OpPrev: "b>b", api.OpWithin: "b>b",
	api.OpAdd: "ii>i", api.OpSub: "ii>i", api.OpMul: "ii>i", api.OpDiv: "ii>i", api.OpMod: "ii>i",
	api.OpLt: "ii>b", api.OpLe: "ii>b", api.OpEq: "xx>b", api.OpNe: "xx>b",
	api.OpArrow: "xx>x", api.OpPre: "x>x", api.OpIf: "bxx>x",
}

// result is what an operator is of operands of such types, if it takes them.
func result(how string, operands []int) (int, api.Errno) {
	what := map[byte]int{'b': api.Bool, 'i': api.Int}
	takes, is, _ := strings.Cut(how, ">")
	for i, t := range operands {
		if known, ok := what[takes[i]]; ok && known != t {
			return 0, api.ErrType
		}
		what[takes[i]] = t
	}
	return what[is[0]], api.OK
}

// combined calls with all lists of so many types.
func combined(count int, with func(l []int)) {
	if count == 0 {
		with(nil)
		return
	}
	combined(count-1, func(l []int) {
		for _, t := range every {
			with(append(slices.Clone(l), t))
		}
	})
}

// is tells that an expression is of a type, or has an error.
func is(t *testing.T, e api.Expr, streams []api.Param, units []api.Unit, want int, fault api.Errno) {
	t.Helper()
	for range 2 {
		if got, f := types.Of(e, streams, units); got != want || f != fault {
			t.Fatalf("P9.1: %v of %v: %d, %d; not %d, %d", e, streams, got, f, want, fault)
		}
	}
}

// Each operator, with operands of all types.
func TestOperators(t *testing.T) {
	for o := api.OpNum; o <= api.OpIf; o++ {
		how, ok := said[o]
		if !ok {
			if o != api.OpVar {
				t.Errorf("operator %d is not asked for", o)
			}
			continue
		}
		combined(strings.Index(how, ">"), func(l []int) {
			var streams []api.Param
			var parts []api.Expr
			for i, x := range l {
				name := string(rune('p' + i))
				streams = append(streams, api.Param{Name: name, Type: x})
				parts = append(parts, v(name))
			}
			want, fault := result(how, l)
			is(t, op(o, parts...), streams, nil, want, fault)
		})
	}
}

func TestLeaves(t *testing.T) {
	for _, n := range []int{0, 1, 2, math.MaxInt32} {
		is(t, tree.Join(api.OpNum, n, ""), nil, nil, api.Int, api.OK)
	}
	for n := range 2 {
		is(t, tree.Join(api.OpBool, n, ""), nil, nil, api.Bool, api.OK)
	}
	for _, n := range []int{0, 1, 1000} {
		is(t, tree.Join(api.OpWithin, n, "", v("b")), []api.Param{{Name: "b", Type: api.Bool}}, nil, api.Bool, api.OK)
		is(t, tree.Join(api.OpWithin, n, "", v("b")), []api.Param{{Name: "b", Type: api.Int}}, nil, 0, api.ErrType)
	}
}

func TestStreams(t *testing.T) {
	for _, x := range every {
		is(t, v("a"), []api.Param{{Name: "a", Type: x}}, nil, x, api.OK)
		for _, y := range every {
			// The first one of a name counts.
			is(t, v("a"), []api.Param{{Name: "b", Type: y}, {Name: "a", Type: x}, {Name: "a", Type: y}}, nil, x, api.OK)
			is(t, v("b"), []api.Param{{Name: "a", Type: x}, {Name: "a", Type: x}, {Name: "b", Type: y}, {Name: "b", Type: x}}, nil, y, api.OK)
		}
	}
	// A name is of bytes; no unit is a stream.
	f := api.Unit{Name: "f", In: []api.Param{{Name: "x", Type: api.Int}}, Out: api.Param{Name: "y", Type: api.Int}, Vars: []api.Param{{Name: "z", Type: api.Int}}}
	for _, name := range []string{"z", "A", "a ", " a", "aa", "a\x00", "\xff", "f", "x", "y"} {
		is(t, v(name), []api.Param{{Name: "a", Type: api.Int}, {Type: api.Int}}, []api.Unit{f}, 0, api.ErrName)
		is(t, v(name), nil, nil, 0, api.ErrName)
		is(t, v(name), []api.Param{{Name: "a", Type: api.Int}, {Name: name, Type: api.Bool}}, nil, api.Bool, api.OK)
	}
}

// Of a call the node counts that is the first of its name.
func TestCalls(t *testing.T) {
	param := func(x int) api.Param { return api.Param{Name: "q", Type: x} }
	unit := func(out int, in ...int) api.Unit {
		u := api.Unit{Name: "f", Out: param(out)}
		for _, x := range in {
			u.In = append(u.In, param(x))
		}
		return u
	}
	contract := unit(0)
	contract.Contract, contract.Out = true, api.Param{}
	other := unit(api.Bool)
	other.Name = "g"
	names := []string{"a", "b", "c"}
	var streams []api.Param
	args := func(l []int) []api.Expr {
		streams = nil
		var parts []api.Expr
		for i, x := range l {
			streams = append(streams, api.Param{Name: names[i], Type: x})
			parts = append(parts, v(names[i]))
		}
		return parts
	}
	for count := range 4 {
		combined(count, func(l []int) {
			e := call("f", args(l)...)
			for i, out := range every {
				right := unit(out, l...)
				is(t, e, streams, []api.Unit{right}, out, api.OK)
				if i > 2 {
					continue
				}
				is(t, e, streams, []api.Unit{other, contract, right, unit(out+1, l...)}, out, api.OK)
				is(t, e, streams, []api.Unit{contract, right, unit(out, append(l, out)...), contract}, out, api.OK)
				is(t, e, streams, []api.Unit{unit(out, append(slices.Clone(l), api.Int)...), right}, 0, api.ErrCall)
				if count > 0 {
					is(t, e, streams, []api.Unit{unit(out, l[1:]...), right}, 0, api.ErrCall)
				}
				for j := range l {
					wrong := slices.Clone(l)
					wrong[j]++
					is(t, e, streams, []api.Unit{other, unit(out, wrong...), right}, 0, api.ErrType)
				}
			}
			is(t, e, streams, nil, 0, api.ErrCall)
			is(t, e, streams, []api.Unit{contract, other}, 0, api.ErrCall)
		})
	}
	// How many there are is asked ahead of what they are.
	is(t, call("f", args([]int{api.Bool, api.Bool})...), streams, []api.Unit{unit(api.Int, api.Int)}, 0, api.ErrCall)
	is(t, call("f", args([]int{api.Bool})...), streams, []api.Unit{unit(api.Int, api.Int, api.Int)}, 0, api.ErrCall)
	is(t, call("f"), nil, []api.Unit{unit(api.Int, api.Int)}, 0, api.ErrCall)
	is(t, call("f"), nil, []api.Unit{{Name: "g"}, {Name: "f"}}, 0, api.OK)
}

// here are streams a, d: int, b: bool, o of a type of its own; nodes f(int, bool): bool, g(): int, h(bool): int.
func here() ([]api.Param, []api.Unit) {
	i, b := api.Param{Name: "x", Type: api.Int}, api.Param{Name: "y", Type: api.Bool}
	return []api.Param{{Name: "a", Type: api.Int}, {Name: "b", Type: api.Bool}, {Name: "d", Type: api.Int}, {Name: "o", Type: 9}, {Name: "b", Type: api.Int}},
		[]api.Unit{{Contract: true, Name: "g", In: []api.Param{i}}, {Name: "f", In: []api.Param{i, b}, Out: b}, {Name: "g", Out: i}, {Name: "h", In: []api.Param{b}, Out: i}, {Name: "h", Out: i}, {Contract: true, Name: "k"}}
}

func TestByHand(t *testing.T) {
	const i, b = api.Int, api.Bool
	streams, units := here()
	for s, want := range map[string]struct {
		is    int
		fault api.Errno
	}{
		"a < true": {0, api.ErrType}, "a < 1": {b, 0}, "true < a": {0, api.ErrType}, "a > 1 -> b": {b, 0}, "0 -> pre a + 1": {i, 0}, "not (a = 1) and b": {b, 0}, "(a = 1) = b": {b, 0}, "a = (1 = a)": {0, api.ErrType},
		"o": {9, 0}, "pre o": {9, 0}, "o -> pre o": {9, 0}, "o = pre o": {b, 0}, "o <> a": {0, api.ErrType}, "o + 1": {0, api.ErrType}, "not o": {0, api.ErrType}, "if b then o else o": {9, 0}, "if o then a else a": {0, api.ErrType}, "if b then o else a": {0, api.ErrType}, "once o": {0, api.ErrType}, "h(o)": {0, api.ErrType},
		"f(a, b)": {b, 0}, "f(1, f(2, true))": {b, 0}, "f(g(), a < h(b))": {b, 0}, "f(b, a)": {0, api.ErrType}, "f(a, a)": {0, api.ErrType}, "f(b, b)": {0, api.ErrType}, "f(a)": {0, api.ErrCall}, "f()": {0, api.ErrCall}, "f(a, b, b)": {0, api.ErrCall}, "g()": {i, 0}, "g(a)": {0, api.ErrCall}, "h(b) + g() * - h(true)": {i, 0}, "h()": {0, api.ErrCall}, "k()": {0, api.ErrCall}, "a()": {0, api.ErrCall}, "not g()": {0, api.ErrType},
		"if f(a, b) then g() else h(b)": {i, 0}, "within 3 f(a, b) since prev (a <> 0)": {b, 0}, "if a then a else z": {0, api.ErrName},
		// Of several errors the first one, node by node; an operator is behind its operands.
		"z + true": {0, api.ErrName}, "not a and z": {0, api.ErrType}, "z and not a": {0, api.ErrName}, "q() + z": {0, api.ErrCall}, "z + q()": {0, api.ErrName}, "q() and not a": {0, api.ErrCall}, "not a or q()": {0, api.ErrType}, "a + b = z": {0, api.ErrType}, "z = a + b": {0, api.ErrName}, "not not not z": {0, api.ErrName}, "not - b": {0, api.ErrType},
		"if z then not a else q()": {0, api.ErrName}, "if b then not a else q()": {0, api.ErrType}, "if b then q() else not a": {0, api.ErrCall}, "if a then b else q()": {0, api.ErrCall}, "if a then z else q()": {0, api.ErrName}, "if not a then z else q()": {0, api.ErrType},
		"f(z, q())": {0, api.ErrName}, "f(q(), z)": {0, api.ErrCall}, "q(z)": {0, api.ErrName}, "q(not a)": {0, api.ErrType}, "f(not a)": {0, api.ErrType}, "f(b, not a, z)": {0, api.ErrType}, "f(b, z, not a)": {0, api.ErrName}, "f(b, b) and z": {0, api.ErrType}, "f(b) and z": {0, api.ErrCall}, "a > z + not b": {0, api.ErrName}, "- b > z": {0, api.ErrName}, "z > - b": {0, api.ErrType},
	} {
		e, fault := expr.Read(s)
		if fault.Code != api.OK {
			t.Fatalf("%q: %v", s, fault)
		}
		is(t, e, streams, units, want.is, want.fault)
	}
}

// Errors are told in order, however the nodes stand.
func TestOrder(t *testing.T) {
	streams, units := here()
	z, q, b := v("z")[0], call("q")[0], v("b")[0]
	neg := func(a int) api.Node { return api.Node{Op: api.OpNeg, A: a, B: -1, C: -1} }
	args := func(a, b int) api.Node { return api.Node{Op: api.OpArgs, A: a, B: b, C: -1} }
	for i, c := range []struct {
		e    api.Expr
		want api.Errno
	}{
		{api.Expr{z, q, {Op: api.OpAdd, A: 0, B: 1, C: -1}}, api.ErrName},
		{api.Expr{z, q, {Op: api.OpAdd, A: 1, B: 0, C: -1}}, api.ErrCall},
		{api.Expr{z, b, neg(1), {Op: api.OpMul, A: 2, B: 0, C: -1}}, api.ErrType},
		{api.Expr{b, neg(0), z, {Op: api.OpMul, A: 2, B: 1, C: -1}}, api.ErrName},
		{api.Expr{z, b, q, {Op: api.OpIf, A: 1, B: 2, C: 0}}, api.ErrCall},
		{api.Expr{q, z, b, {Op: api.OpIf, A: 2, B: 1, C: 0}}, api.ErrName},
		{api.Expr{q, z, args(1, -1), args(0, 2), {Op: api.OpCall, A: 3, B: -1, C: -1, Name: "f"}}, api.ErrName},
		{api.Expr{z, q, args(1, -1), args(0, 2), {Op: api.OpCall, A: 3, B: -1, C: -1, Name: "f"}}, api.ErrCall},
	} {
		if got, f := types.Of(c.e, streams, units); got != 0 || f != c.want {
			t.Errorf("P9.1: case %d: %d, %d", i, got, f)
		}
	}
	a := v("a")[0]
	is(t, api.Expr{b, a, args(1, -1), args(0, 2), {Op: api.OpCall, A: 3, B: -1, C: -1, Name: "f"}}, streams, units, api.Bool, api.OK)
	is(t, api.Expr{a, b, args(1, -1), args(0, 2), {Op: api.OpCall, A: 3, B: -1, C: -1, Name: "f"}}, streams, units, 0, api.ErrType)
	is(t, api.Expr{a, a, b, {Op: api.OpIf, A: 2, B: 1, C: 0}}, streams, units, api.Int, api.OK)
}

// An expression that may not be is told ahead of all else that is wrong in it.
func TestArg(t *testing.T) {
	streams, units := here()
	a, z := v("a")[0], v("z")[0]
	for i, e := range []api.Expr{
		nil, {}, {a, a}, {z, a}, {{Op: 0, A: -1, B: -1, C: -1}}, {{Op: 29, A: -1, B: -1, C: -1}}, {{Op: math.MaxInt, A: -1, B: -1, C: -1}}, {{Op: math.MinInt}}, {{Op: api.OpVar, Name: "a"}}, {{Op: api.OpNum, A: -1, B: -1, C: -1, N: -1}},
		{{Op: api.OpNeg, A: 0, B: -1, C: -1}}, {a, {Op: api.OpNeg, A: 1, B: -1, C: -1}}, {a, {Op: api.OpNeg, A: -1, B: -1, C: -1}}, {a, {Op: api.OpAdd, A: 0, B: 0, C: -1}}, {z, {Op: api.OpAdd, A: 0, B: 5, C: -1}}, {a, {Op: api.OpArgs, A: 0, B: -1, C: -1}}, {a, {Op: api.OpCall, A: 0, B: -1, C: -1, Name: "h"}}, {a, {Op: api.OpIf, A: 0, B: 0, C: 0}},
		tree.Join(api.OpBool, 2, ""), tree.Join(api.OpWithin, 1001, "", v("b")), tree.Join(api.OpNot, 0, "x", v("b")), deep(41, v("b")), deep(41, v("z")), wide(5001),
	} {
		if got, f := types.Of(e, streams, units); got != 0 || f != api.ErrArg {
			t.Errorf("P9.1: case %d: %d, %d", i, got, f)
		}
	}
	is(t, deep(40, v("b")), streams, units, api.Bool, api.OK)
	is(t, deep(40, v("z")), streams, units, 0, api.ErrName)
	is(t, deep(40, v("a")), streams, units, 0, api.ErrType)
	is(t, wide(4999), streams, units, api.Int, api.OK)
	is(t, op(api.OpNeg, wide(4999)), streams, units, api.Int, api.OK)
	is(t, op(api.OpNot, wide(4999)), streams, units, 0, api.ErrType)
}

// deep is an expression with Nots over it, so deep in all.
func deep(n int, e api.Expr) api.Expr {
	for range n - 1 {
		e = op(api.OpNot, e)
	}
	return e
}

// wide is a sum of so many nodes (an odd number), no deeper than it must be.
func wide(n int) api.Expr {
	if n == 1 {
		return v("a")
	}
	left := n / 2
	if left%2 == 0 {
		left--
	}
	return op(api.OpAdd, wide(left), wide(n-1-left))
}

// Any nodes at all have an answer: ErrArg just if they may not be.
func TestAnything(t *testing.T) {
	r := rand.New(rand.NewSource(12))
	whole, _ := expr.Read("if b then f(a, - a, pre b) else within 3 b since a < 1")
	fields := []int{-1, 0, 1, 2, 3, -2, 1 << 32, math.MinInt, math.MaxInt}
	seen := map[bool]int{}
	for range 50000 {
		e := slices.Clone(whole[:1+r.Intn(len(whole))])
		for range 1 + r.Intn(2) {
			n := &e[r.Intn(len(e))]
			n.Op = []int{n.Op, n.Op, r.Intn(31), fields[r.Intn(len(fields))]}[r.Intn(4)]
			*[]*int{&n.A, &n.B, &n.C, &n.N}[r.Intn(4)] = fields[r.Intn(len(fields))]
		}
		may := tree.May(e)
		seen[may]++
		if x, f := types.Of(e, nil, nil); may == (f == api.ErrArg) || f != api.OK && x != 0 {
			t.Fatalf("R1, R3: %v: %d, %d", e, x, f)
		}
	}
	if seen[true] < 100 || seen[false] < 100 {
		t.Errorf("%v", seen)
	}
}
