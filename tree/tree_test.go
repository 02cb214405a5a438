package tree_test

import (
	"math"
	"math/rand"
	"slices"
	"strconv"
	"testing"

	"bailment/api"
	"bailment/tree"
)

var (
	none  = []int{api.OpNum, api.OpBool, api.OpVar}
	ones  = []int{api.OpNot, api.OpNeg, api.OpPre, api.OpOnce, api.OpHist, api.OpPrev, api.OpWithin}
	twos  = []int{api.OpAnd, api.OpOr, api.OpXor, api.OpImp, api.OpEq, api.OpNe, api.OpLt, api.OpLe, api.OpAdd, api.OpSub, api.OpMul, api.OpDiv, api.OpMod, api.OpArrow, api.OpSince}
	other = []int{math.MinInt, -28, -1, 0, 29, 30, 1 << 32, math.MaxInt}
)

// term is an expression as a tree: a call's arguments are its operands.
type term struct {
	op, n int
	name  string
	kids  []*term
}

func v(name string) *term { return &term{op: api.OpVar, name: name} }

func op(op int, kids ...*term) *term { return &term{op: op, kids: kids} }

func call(name string, kids ...*term) *term { return &term{op: api.OpCall, name: name, kids: kids} }

// bare is a node without operands.
func bare(op, n int, name string) api.Node {
	return api.Node{Op: op, A: -1, B: -1, C: -1, N: n, Name: name}
}

// lay puts a term in order behind what stands in out, and tells its node's number.
func (t *term) lay(out *api.Expr) int {
	at := []int{-1, -1, -1}
	for i, k := range t.kids {
		n := k.lay(out)
		if t.op != api.OpCall {
			at[i] = n
			continue
		}
		*out = append(*out, api.Node{Op: api.OpArgs, A: n, B: at[0], C: -1})
		at[0] = len(*out) - 1
	}
	*out = append(*out, api.Node{Op: t.op, A: at[0], B: at[1], C: at[2], N: t.n, Name: t.name})
	return len(*out) - 1
}

func (t *term) ordered() api.Expr {
	var out api.Expr
	t.lay(&out)
	return out
}

func (t *term) deep() int {
	d := 0
	for _, k := range t.kids {
		if d = max(d, k.deep()); t.op == api.OpCall {
			d++
		}
	}
	return d + 1
}

func (t *term) vars(seen *[]string) {
	for _, k := range t.kids {
		k.vars(seen)
	}
	if t.op == api.OpVar && !slices.Contains(*seen, t.name) {
		*seen = append(*seen, t.name)
	}
}

func (t *term) put(names []string, by []*term) *term {
	if i := slices.Index(names, t.name); t.op == api.OpVar && i >= 0 {
		return by[i]
	}
	c := *t
	c.kids = nil
	for _, k := range t.kids {
		c.kids = append(c.kids, k.put(names, by))
	}
	return &c
}

// some is a term of any operators, at most so deep.
func some(r *rand.Rand, deep int) *term {
	if deep <= 1 || r.Intn(5) == 0 {
		switch r.Intn(5) {
		case 0:
			return &term{op: api.OpNum, n: []int{0, 7, 1<<31 - 1}[r.Intn(3)]}
		case 1:
			return &term{op: api.OpBool, n: r.Intn(2)}
		case 2:
			return call("f")
		}
		return v(string(rune('a' + r.Intn(4))))
	}
	t := &term{}
	n := 1
	switch r.Intn(5) {
	case 0:
		if t.op = ones[r.Intn(len(ones))]; t.op == api.OpWithin {
			t.n = []int{0, 3, 1000}[r.Intn(3)]
		}
	case 1:
		t.op, n = api.OpIf, 3
	case 2:
		n = r.Intn(4)
		t.op, t.name, deep = api.OpCall, string(rune('a'+r.Intn(3))), deep-n
	default:
		t.op, n = twos[r.Intn(len(twos))], 2
	}
	for range n {
		t.kids = append(t.kids, some(r, deep-1))
	}
	return t
}

// shuffled is an expression in any order in which operands stand ahead.
func shuffled(r *rand.Rand, e api.Expr) api.Expr {
	to := make([]int, len(e))
	for i := range to {
		to[i] = -1
	}
	moved := func(k int) int {
		if k < 0 {
			return k
		}
		return to[k]
	}
	var out api.Expr
	for len(out) < len(e) {
		i := r.Intn(len(e))
		n := e[i]
		if to[i] >= 0 || slices.ContainsFunc([]int{n.A, n.B, n.C}, func(k int) bool { return k >= 0 && to[k] < 0 }) {
			continue
		}
		to[i] = len(out)
		n.A, n.B, n.C = moved(n.A), moved(n.B), moved(n.C)
		out = append(out, n)
	}
	return out
}

func TestExample(t *testing.T) {
	e := tree.Join(api.OpAnd, 0, "", tree.Join(api.OpVar, 0, "a"), tree.Join(api.OpVar, 0, "b"))
	if !slices.Equal(e, api.Expr{bare(api.OpVar, 0, "a"), bare(api.OpVar, 0, "b"), {Op: api.OpAnd, A: 0, B: 1, C: -1}}) {
		t.Errorf("P3.3: %v", e)
	}
}

func TestKids(t *testing.T) {
	check := func(op int, fields [3]int, want ...int) {
		t.Helper()
		if l := tree.Kids(api.Node{Op: op, A: fields[0], B: fields[1], C: fields[2], N: 9, Name: "x"}); !slices.Equal(l, want) {
			t.Errorf("P3.1: operator %d of %v: %v, not %v", op, fields, l, want)
		}
	}
	for _, f := range [][3]int{{7, 8, 9}, {9, 8, 7}, {0, 0, 0}, {-1, -1, -1}, {-1, 4, 5}, {-5, -6, math.MinInt}} {
		for _, op := range slices.Concat(none, other) {
			check(op, f)
		}
		for _, op := range ones {
			check(op, f, f[0])
		}
		for _, op := range twos {
			check(op, f, f[0], f[1])
		}
		check(api.OpIf, f, f[0], f[1], f[2])
	}
	check(api.OpCall, [3]int{4, 5, 6}, 4)
	check(api.OpCall, [3]int{0, -1, -1}, 0)
	check(api.OpCall, [3]int{-2, -1, -1}, -2)
	check(api.OpCall, [3]int{-1, 5, 6})
	check(api.OpArgs, [3]int{4, 5, 6}, 5, 4)
	check(api.OpArgs, [3]int{4, -1, 6}, 4)
	check(api.OpArgs, [3]int{-1, 5, 6}, 5, -1)
	check(api.OpArgs, [3]int{-1, -1, -1}, -1)
}

func TestDepth(t *testing.T) {
	x, not := bare(api.OpVar, 0, "x"), func(a int) api.Node { return api.Node{Op: api.OpNot, A: a, B: -1, C: -1} }
	for i, c := range []struct {
		e    api.Expr
		want int
	}{
		{nil, 0}, {api.Expr{}, 0}, {api.Expr{x}, 1}, {api.Expr{x, not(0)}, 2}, {api.Expr{x, not(0), not(1)}, 3},
		{api.Expr{x, not(0), not(0)}, 2}, {api.Expr{x, not(0), x}, 1}, {api.Expr{x, not(0), not(1), {Op: api.OpIf, A: 0, B: 2, C: 1}}, 4},
		{v("f").ordered(), 1}, {call("f").ordered(), 1}, {call("f", v("a")).ordered(), 3}, {call("f", v("a"), v("b")).ordered(), 4},
		{call("f", v("a"), v("b"), op(api.OpNot, v("c"))).ordered(), 5}, {call("f", op(api.OpNot, op(api.OpNot, v("c"))), v("a")).ordered(), 6},
		{api.Expr{bare(99, 0, "")}, 1},
	} {
		if d := tree.Depth(c.e); d != c.want {
			t.Errorf("P3.1: case %d: %d, not %d", i, d, c.want)
		}
	}
	// Operands that are shared are nodes ahead, too: there are 2^5000 ways down.
	shared := api.Expr{x}
	for i := range 5000 {
		shared = append(shared, api.Node{Op: api.OpAdd, A: i, B: i, C: -1})
	}
	if d := tree.Depth(shared); d != 5001 {
		t.Errorf("P3.1: %d", d)
	}
}

// said is what the chapter says of an expression that may be, clause by clause.
func said(e api.Expr) bool {
	if len(e) < 1 || len(e) > 5000 || e[len(e)-1].Op == api.OpArgs {
		return false
	}
	above := map[int]int{}
	for i, n := range e {
		fields := []*int{&n.A, &n.B, &n.C}
		arity := 0
		switch {
		case n.Op < 1 || n.Op > 28:
			return false
		case slices.Contains(ones, n.Op) || n.Op == api.OpCall && n.A != -1 || n.Op == api.OpArgs && n.B == -1:
			arity = 1
		case slices.Contains(twos, n.Op) || n.Op == api.OpArgs:
			arity = 2
		case n.Op == api.OpIf:
			arity = 3
		}
		for j, f := range fields {
			if j >= arity {
				if *f != -1 {
					return false
				}
				continue
			}
			if *f < 0 || *f >= i || above[*f] != 0 {
				return false
			}
			above[*f] = 1
			place := n.Op == api.OpCall || n.Op == api.OpArgs && j == 1
			if place != (e[*f].Op == api.OpArgs) {
				return false
			}
		}
		most := map[int]int{api.OpNum: 1<<31 - 1, api.OpBool: 1, api.OpWithin: 1000}[n.Op]
		if n.N < 0 || n.N > most || (n.Op == api.OpVar || n.Op == api.OpCall) != (n.Name != "") {
			return false
		}
	}
	return len(above) == len(e)-1 && tree.Depth(e) <= 40
}

func TestMayByHand(t *testing.T) {
	x := bare(api.OpVar, 0, "x")
	args := func(a, b int) api.Node { return api.Node{Op: api.OpArgs, A: a, B: b, C: -1} }
	f := func(a int) api.Node { return api.Node{Op: api.OpCall, A: a, B: -1, C: -1, Name: "f"} }
	for i, e := range []api.Expr{
		{x}, {bare(api.OpNum, 0, "")}, {bare(api.OpNum, 1<<31-1, "")}, {bare(api.OpBool, 0, "")}, {bare(api.OpBool, 1, "")}, {f(-1)}, {bare(api.OpVar, 0, " \xff")},
		{x, {Op: api.OpWithin, A: 0, B: -1, C: -1}}, {x, {Op: api.OpWithin, A: 0, B: -1, C: -1, N: 1000}},
		{x, args(0, -1), f(1)}, {x, args(0, -1), x, args(2, 1), f(3)}, {x, x, args(1, -1), args(0, 2), f(3)}, {f(-1), args(0, -1), f(1)},
		{x, x, x, {Op: api.OpIf, A: 2, B: 0, C: 1}}, {x, x, {Op: api.OpSub, A: 1, B: 0, C: -1}},
	} {
		if !tree.May(e) {
			t.Errorf("P3.1: %d: %v may not be", i, e)
		}
	}
	for i, e := range []api.Expr{
		nil, {}, {bare(0, 0, "")}, {bare(-1, 0, "")}, {bare(29, 0, "")}, {bare(api.OpVar, 0, "")}, {bare(api.OpCall, 0, "")}, {bare(api.OpVar, 1, "x")}, {bare(api.OpCall, 1, "x")}, {bare(api.OpNum, -1, "")}, {bare(api.OpNum, 1<<31, "")}, {bare(api.OpNum, 1, "x")}, {bare(api.OpBool, 2, "")}, {bare(api.OpBool, -1, "")}, {bare(api.OpBool, 1, "x")},
		{{Op: api.OpVar, A: 0, B: -1, C: -1, Name: "x"}}, {{Op: api.OpVar, A: -1, B: 0, C: -1, Name: "x"}}, {{Op: api.OpVar, A: -1, B: -1, C: -2, Name: "x"}}, {{Op: api.OpVar, Name: "x"}}, {{Op: api.OpCall, A: -1, B: 0, C: -1, Name: "x"}}, {{Op: api.OpCall, A: -2, B: -1, C: -1, Name: "x"}},
		{bare(api.OpNot, 0, "")}, {x, bare(api.OpNot, 0, "")}, {{Op: api.OpNot, A: 0, B: -1, C: -1}}, {x, {Op: api.OpNot, A: 0, B: -1, C: -1, N: 1}}, {x, {Op: api.OpNot, A: 0, B: -1, C: -1, Name: "x"}}, {x, {Op: api.OpNot, A: 0, B: 0, C: -1}}, {x, {Op: api.OpNot, A: -2, B: -1, C: -1}}, {x, {Op: api.OpNot, A: math.MaxInt, B: -1, C: -1}},
		{x, {Op: api.OpWithin, A: 0, B: -1, C: -1, N: -1}}, {x, {Op: api.OpWithin, A: 0, B: -1, C: -1, N: 1001}},
		{x, {Op: api.OpAnd, A: 0, B: -1, C: -1}}, {x, {Op: api.OpAnd, A: 0, B: 0, C: -1}}, {x, x, {Op: api.OpAnd, A: 0, B: 1, C: 1}}, {x, x, {Op: api.OpIf, A: 0, B: 1, C: -1}}, {x, x, x, {Op: api.OpIf, A: 0, B: 1, C: 0}},
		{x, x}, {x, x, {Op: api.OpNot, A: 0, B: -1, C: -1}}, {x, {Op: api.OpNot, A: 0, B: -1, C: -1}, {Op: api.OpNot, A: 0, B: -1, C: -1}}, {x, {Op: api.OpNot, A: 0, B: -1, C: -1}, {Op: api.OpAnd, A: 0, B: 1, C: -1}},
		{x, args(0, -1)}, {args(-1, -1), f(0)}, {x, args(-1, 0), f(1)}, {x, f(0)}, {x, args(0, 0), f(1)}, {x, x, args(0, 1), f(2)}, {x, args(0, -1), args(1, -1), f(2)}, {x, args(0, -1), x, args(1, 2), f(3)}, {x, args(0, -1), {Op: api.OpNot, A: 1, B: -1, C: -1}}, {x, x, args(1, -1), {Op: api.OpAnd, A: 0, B: 2, C: -1}}, {x, {Op: api.OpArgs, A: 0, B: -1, C: -1, Name: "x"}, f(1)}, {x, {Op: api.OpArgs, A: 0, B: -1, C: -1, N: 1}, f(1)}, {x, {Op: api.OpArgs, A: 0, B: -1, C: 0}, f(1)}, {x, args(0, -1), f(1), f(1)}, {x, args(0, -2), f(1)},
	} {
		if tree.May(e) || len(tree.Sub(e, 0)) != 0 || len(tree.Sub(e, len(e)-1)) != 0 || len(tree.Vars(e)) != 0 {
			t.Errorf("P3.1, P3.2, P3.4: %d: %v may be", i, e)
		}
		if len(tree.Put(e, nil, nil)) != 0 || len(tree.Put(api.Expr{x}, []string{"y"}, []api.Expr{e})) != 0 {
			t.Errorf("P3.4: %d: %v is put", i, e)
		}
	}
}

// wide is a sum of n nodes (an odd number) that is not deep.
func wide(n int) *term {
	if n == 1 {
		return v("w")
	}
	left := n / 2
	if left%2 == 0 {
		left--
	}
	return op(api.OpAdd, wide(left), wide(n-1-left))
}

func TestMayLimits(t *testing.T) {
	for n, want := range map[int]bool{4999: true, 5001: false, 5003: false, 99999: false} {
		if e := wide(n).ordered(); len(e) != n || tree.May(e) != want || len(tree.Sub(e, n-1)) != 0 != want {
			t.Errorf("P3.1: %d nodes", n)
		}
		if e := op(api.OpNeg, wide(n)).ordered(); n < 5001 && !tree.May(e) || n > 4999 && tree.May(e) {
			t.Errorf("P3.1: %d nodes", n+1)
		}
	}
	deep, args := v("a"), []*term{}
	for i := 2; i <= 42; i++ {
		deep = op(api.OpNot, deep)
		if e := deep.ordered(); tree.Depth(e) != i || tree.May(e) != (i <= 40) {
			t.Errorf("P3.1: %d deep", i)
		}
		// Each argument's Args is one deeper: 38 of them and a name, and the call, are 40.
		args = append(args, v("a"))
		if e := call("f", args...).ordered(); tree.Depth(e) != len(args)+2 || tree.May(e) != (len(args) <= 38) {
			t.Errorf("P3.1: %d arguments", len(args))
		}
	}
}

func TestMayMutants(t *testing.T) {
	r := rand.New(rand.NewSource(3))
	yes := 0
	for range 60000 {
		e := shuffled(r, some(r, 1+r.Intn(6)).ordered())
		for range r.Intn(3) {
			n := &e[r.Intn(len(e))]
			switch r.Intn(6) {
			case 0:
				n.Op = r.Intn(31)
			case 1:
				n.Name = []string{"", "x"}[r.Intn(2)]
			case 2:
				n.N = []int{0, 1, 2, -1, 1000, 1001, 1<<31 - 1, 1 << 31}[r.Intn(8)]
			default:
				*[]*int{&n.A, &n.B, &n.C}[r.Intn(3)] = r.Intn(len(e)+3) - 2
			}
		}
		if r.Intn(10) == 0 {
			e = e[:r.Intn(len(e)+1)]
		}
		want := said(e)
		if want {
			yes++
		}
		if tree.May(e) != want || len(tree.Sub(e, len(e)-1)) != 0 != want || len(tree.Put(e, nil, nil)) != 0 != want {
			t.Fatalf("P3.1: %v: %v, not %v", e, tree.May(e), want)
		}
	}
	if yes < 10000 || yes > 50000 {
		t.Errorf("%d of the mutants may be", yes)
	}
}

func TestJoin(t *testing.T) {
	parts := []*term{op(api.OpSub, v("a"), v("b")), v("c"), call("g", v("a"), v("d")), {op: api.OpNum, n: 5}, v("c")}
	for o := -2; o <= 31; o++ {
		arity := 0
		switch {
		case slices.Contains(ones, o):
			arity = 1
		case slices.Contains(twos, o):
			arity = 2
		case o == api.OpIf:
			arity = 3
		}
		for n := range parts {
			var l []api.Expr
			for _, p := range parts[:n] {
				l = append(l, p.ordered())
			}
			var want api.Expr
			if n == arity && o != api.OpArgs || o == api.OpCall {
				want = (&term{op: o, n: -7, name: "zz", kids: parts[:n]}).ordered()
			}
			if e := tree.Join(o, -7, "zz", l...); !slices.Equal(e, want) {
				t.Errorf("P3.3: operator %d of %d: %v, not %v", o, n, e, want)
			}
			for i := range l {
				holed := slices.Clone(l)
				holed[i] = api.Expr{}
				if e := tree.Join(o, 0, "f", holed...); len(e) != 0 {
					t.Errorf("P3.3: operator %d of an empty part: %v", o, e)
				}
			}
		}
	}
}

func TestJoinCountsOn(t *testing.T) {
	odd := api.Expr{{Op: 77, A: 0, B: 9, C: -1, N: -3, Name: "o"}, {Op: api.OpNot, A: -5, B: 1, C: 1 << 40}}
	counted := func(by int) api.Expr {
		return api.Expr{{Op: 77, A: by, B: 9 + by, C: -1, N: -3, Name: "o"}, {Op: api.OpNot, A: -5, B: 1 + by, C: 1<<40 + by}}
	}
	want := slices.Concat(counted(0), counted(2), api.Expr{{Op: api.OpXor, A: 1, B: 3, C: -1}})
	if e := tree.Join(api.OpXor, 0, "", odd, odd); !slices.Equal(e, want) {
		t.Errorf("P3.3: %v", e)
	}
	// An Args stands behind its part, and counts for those behind it.
	want = slices.Concat(counted(0), api.Expr{{Op: api.OpArgs, A: 1, B: -1, C: -1}}, counted(3), api.Expr{{Op: api.OpArgs, A: 4, B: 2, C: -1}, {Op: api.OpCall, A: 5, B: -1, C: -1, N: 4, Name: "f"}})
	if e := tree.Join(api.OpCall, 4, "f", odd, odd); !slices.Equal(e, want) {
		t.Errorf("P3.3: %v", e)
	}
}

func TestSub(t *testing.T) {
	r := rand.New(rand.NewSource(4))
	for range 3000 {
		whole := some(r, 1+r.Intn(7))
		e := whole.ordered()
		if !tree.May(e) || tree.Depth(e) != whole.deep() {
			t.Fatalf("P3.1: %v: %v, %d", e, tree.May(e), tree.Depth(e))
		}
		mixed := shuffled(r, e)
		kept := slices.Clone(mixed)
		if s := tree.Sub(mixed, len(e)-1); !slices.Equal(s, e) || !slices.Equal(tree.Sub(s, len(e)-1), s) {
			t.Fatalf("P3.2, P3.5: %v: %v, not %v", mixed, s, e)
		}
		for i, n := range mixed {
			s := tree.Sub(mixed, i)
			var want api.Expr
			var lay func(i int) int
			lay = func(i int) int {
				n := mixed[i]
				if n.Op == api.OpArgs && n.B >= 0 {
					n.B = lay(n.B)
				}
				for _, f := range []*int{&n.A, &n.B, &n.C} {
					if *f >= 0 && (n.Op != api.OpArgs || f == &n.A) {
						*f = lay(*f)
					}
				}
				want = append(want, n)
				return len(want) - 1
			}
			lay(i)
			if !slices.Equal(s, want) || tree.May(s) != (n.Op != api.OpArgs) {
				t.Fatalf("P3.2: node %d of %v: %v, not %v", i, mixed, s, want)
			}
		}
		for _, i := range []int{-1, len(e), len(e) + 1, math.MinInt, math.MaxInt} {
			if len(tree.Sub(mixed, i)) != 0 {
				t.Fatalf("P3.2: node %d of %v", i, mixed)
			}
		}
		if !slices.Equal(mixed, kept) {
			t.Fatalf("R5: %v is changed", kept)
		}
	}
}

func TestVarsAndPut(t *testing.T) {
	r := rand.New(rand.NewSource(5))
	for range 3000 {
		whole := some(r, 1+r.Intn(6))
		e := shuffled(r, whole.ordered())
		var seen []string
		whole.vars(&seen)
		if l := tree.Vars(e); !slices.Equal(l, seen) {
			t.Fatalf("P3.4: %v: %v, not %v", e, l, seen)
		}
		var names []string
		var terms []*term
		var by, kept []api.Expr
		for range r.Intn(6) {
			names = append(names, []string{"a", "b", "c", "d", "f", "", "zz"}[r.Intn(7)])
			terms = append(terms, some(r, 1+r.Intn(4)))
			by = append(by, shuffled(r, terms[len(terms)-1].ordered()))
			kept = append(kept, slices.Clone(by[len(by)-1]))
		}
		if p, want := tree.Put(e, names, by), whole.put(names, terms).ordered(); !slices.Equal(p, want) {
			t.Fatalf("P3.4: %v in the places of %v in %v: %v, not %v", by, names, e, p, want)
		}
		if len(tree.Put(e, append(names, "a"), by)) != 0 || len(tree.Put(e, names, append(by, e))) != 0 {
			t.Fatalf("P3.4: not as many")
		}
		for i := range by {
			if !slices.Equal(by[i], kept[i]) {
				t.Fatalf("R5: %v is changed", kept[i])
			}
			bad := slices.Clone(by)
			bad[i] = append(slices.Clone(by[i]), bare(api.OpVar, 0, "x"))
			if len(tree.Put(e, names, bad)) != 0 {
				t.Fatalf("P3.4: %v is put", bad[i])
			}
		}
	}
}

func TestPutByHand(t *testing.T) {
	a, b := v("a"), v("b")
	f := call("a", a, b)
	for i, c := range []struct {
		e     *term
		names []string
		by    []*term
		want  *term
	}{
		{op(api.OpSub, a, b), []string{"a", "b"}, []*term{b, a}, op(api.OpSub, b, a)},
		{op(api.OpSub, a, a), []string{"a", "a"}, []*term{f, b}, op(api.OpSub, f, f)},
		{f, []string{"a"}, []*term{b}, call("a", b, b)},
		{a, []string{"a"}, []*term{op(api.OpNot, a)}, op(api.OpNot, a)},
		{f, nil, nil, f},
		{&term{op: api.OpNum, n: 4}, []string{""}, []*term{a}, &term{op: api.OpNum, n: 4}},
	} {
		var by []api.Expr
		for _, x := range c.by {
			by = append(by, x.ordered())
		}
		if e := tree.Put(c.e.ordered(), c.names, by); !slices.Equal(e, c.want.ordered()) {
			t.Errorf("P3.4: case %d: %v", i, e)
		}
	}
	// What is put together may be too long and too deep; it is told all the same.
	chain := a
	for range 39 {
		chain = op(api.OpNot, chain)
	}
	big := wide(4999).ordered()
	e := tree.Put(big, []string{"w"}, []api.Expr{chain.ordered()})
	if len(e) != 2499+2500*40 || tree.Depth(e) != tree.Depth(big)+39 || tree.May(e) {
		t.Errorf("P3.4: %d nodes, %d deep", len(e), tree.Depth(e))
	}
	if e := tree.Put(big, []string{"w"}, []api.Expr{wide(399).ordered()}); len(e) != 2499+2500*399 || e[len(e)-1].B != len(e)-2 {
		t.Errorf("P3.4: %d nodes", len(e))
	}
}

func TestJoinedMayBe(t *testing.T) {
	r := rand.New(rand.NewSource(6))
	for range 3000 {
		x, y, z := some(r, 1+r.Intn(5)), some(r, 1+r.Intn(5)), some(r, 1+r.Intn(5))
		for _, c := range []*term{op(ones[r.Intn(len(ones))], x), op(twos[r.Intn(len(twos))], x, y), op(api.OpIf, x, y, z), call("f", x, y, z)} {
			var parts []api.Expr
			for _, k := range c.kids {
				parts = append(parts, k.ordered())
			}
			e := tree.Join(c.op, 0, c.name, parts...)
			if !slices.Equal(e, c.ordered()) || !tree.May(e) {
				t.Fatalf("P3.3, P3.5: %v, not %v", e, c.ordered())
			}
			mixed := []api.Expr{}
			for _, p := range parts {
				mixed = append(mixed, shuffled(r, p))
			}
			e = tree.Join(c.op, 0, c.name, mixed...)
			if !tree.May(e) || !slices.Equal(tree.Sub(e, len(e)-1), c.ordered()) {
				t.Fatalf("P3.5: %v", e)
			}
		}
	}
}

func TestAnswersAreNew(t *testing.T) {
	spoil := func(e api.Expr) {
		for i := range e {
			e[i] = api.Node{Op: -9}
		}
		e = append(e, api.Node{})
		for i := range e[:cap(e)] {
			e[:cap(e)][i] = api.Node{Op: -8}
		}
	}
	a := op(api.OpNot, v("a")).ordered()
	e := call("f", op(api.OpNot, v("a")), v("b")).ordered()
	kept, keptE := slices.Clone(a), slices.Clone(e)
	spoil(tree.Join(api.OpNot, 0, "", a))
	spoil(tree.Join(api.OpCall, 0, "f", a, a))
	spoil(tree.Sub(e, len(e)-1))
	spoil(tree.Put(e, nil, nil))
	spoil(tree.Put(v("a").ordered(), []string{"a"}, []api.Expr{a}))
	if l := tree.Vars(e); len(l) == 2 {
		l[0] = "z"
	}
	if l := tree.Kids(e[1]); len(l) == 1 {
		l[0] = 99
	}
	if !slices.Equal(a, kept) || !slices.Equal(e, keptE) || !slices.Equal(tree.Vars(e), []string{"a", "b"}) {
		t.Error("R5: what was handed in is changed")
	}
	twice := tree.Put(op(api.OpAnd, v("a"), v("b")).ordered(), []string{"a", "b"}, []api.Expr{a, a})
	if !slices.Equal(twice, op(api.OpAnd, op(api.OpNot, v("a")), op(api.OpNot, v("a"))).ordered()) {
		t.Errorf("P3.4: %v", twice)
	}
}

func TestAnythingEnds(t *testing.T) {
	r := rand.New(rand.NewSource(7))
	number := func() int {
		return []int{math.MinInt, -2, -1, 0, 1, 2, 3, 4, 5, 1 << 40, math.MaxInt}[r.Intn(11)]
	}
	anything := func() api.Expr {
		var e api.Expr
		for range r.Intn(7) {
			e = append(e, api.Node{Op: r.Intn(33) - 2, A: number(), B: number(), C: number(), N: number(), Name: []string{"", "a"}[r.Intn(2)]})
		}
		return e
	}
	for i := range 60000 {
		e, b := anything(), anything()
		kept := slices.Clone(e)
		if d := tree.Depth(e); d != tree.Depth(e) || (d == 0) != (len(e) == 0) {
			t.Fatalf("P3.1, R6: %v: %d", e, d)
		}
		s := tree.Sub(e, number())
		l := tree.Vars(e)
		p := tree.Put(e, []string{"a", strconv.Itoa(i)}, []api.Expr{b, e})
		tree.Join(r.Intn(33)-2, number(), "", e, b)
		if want := said(e); tree.May(e) != want || !want && len(s)+len(l)+len(p) != 0 || !slices.Equal(e, kept) {
			t.Fatalf("P3.1, R3, R5: %v: %v, %v, %v", e, s, l, p)
		}
	}
}
