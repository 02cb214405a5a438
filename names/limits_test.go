package names_test

import (
	"slices"
	"strconv"
	"strings"
	"testing"

	"bailment/api"
	"bailment/list"
	"bailment/names"
	"bailment/tree"
)

// sum is one of n nodes (an odd number) that is not deep.
func sum(name string, n int) api.Expr {
	if n == 1 {
		return v(name)
	}
	left := n / 2
	if left%2 == 0 {
		left--
	}
	return op(api.OpAdd, sum(name, left), sum(name, n-1-left))
}

// nots are so many over an expression.
func nots(n int, e api.Expr) api.Expr {
	for range n {
		e = op(api.OpNot, e)
	}
	return e
}

func assume(e api.Expr) api.Item { return api.Item{Kind: api.Assume, E: e} }

func ghost(name string, e api.Expr) api.Item {
	return api.Item{Kind: api.Ghost, Name: name, Type: api.Int, E: e}
}

func mode(name string, e, f api.Expr) api.Item {
	return api.Item{Kind: api.Mode, Name: name, E: e, F: f}
}

func imports(name string, args ...api.Expr) api.Item {
	return api.Item{Kind: api.Import, Name: name, Args: args}
}

func params(l ...string) []api.Param {
	var out []api.Param
	for _, name := range l {
		out = append(out, api.Param{Name: name, Type: api.Int})
	}
	return out
}

// contract has inputs x and y.
func contract(name string, items ...api.Item) api.Unit {
	return api.Unit{Contract: true, Name: name, In: params("x", "y"), Items: items}
}

// node has an input a, and an output c.
func node(name string, items ...api.Item) api.Unit {
	return api.Unit{Name: name, In: params("a"), Out: params("c")[0], Eqs: []api.Equation{{Name: "c", E: v("a")}}, Items: items}
}

func program(units ...api.Unit) api.Prog {
	return api.Prog{Units: append(units, node("f")), Main: "f"}
}

// resolves tells how many items the unit behind a contract has then, or its fault.
func resolves(t *testing.T, what string, code api.Errno, count int, k api.Unit, items ...api.Item) {
	t.Helper()
	inputs := contract("i", items...)
	inputs.In = params("a", "c")
	for _, u := range []api.Unit{node("n", items...), inputs} {
		q, f := names.Resolve(program(k, u))
		if code != api.OK {
			if f != (api.Fault{Code: code, At: 1}) || len(q.Units) != 0 {
				t.Errorf("P8.2: %s: %v, not %d", what, f, code)
			}
			continue
		}
		if f != (api.Fault{}) || len(q.Units) != 3 || len(q.Units[1].Items) != count {
			t.Fatalf("P8.2: %s: %v", what, f)
		}
		settled(t, q)
	}
}

func TestManyItems(t *testing.T) {
	some := func(n int, x api.Item) []api.Item { return slices.Repeat([]api.Item{x}, n) }
	a, x := assume(v("a")), assume(v("x"))
	k := imports("k", v("a"), v("c"))
	of := func(n int) api.Unit { return contract("k", some(n, x)...) }
	for n, want := range map[int][3]api.Errno{0: {}, 1: {}, 66: {}, 67: {2: api.ErrMany}, 99: {2: api.ErrMany}, 100: {2: api.ErrMany}, 101: {0, api.ErrMany, api.ErrMany}, 200: {0, api.ErrMany, api.ErrMany}} {
		for i, code := range want {
			resolves(t, strconv.Itoa(i+1)+" imports of "+strconv.Itoa(n), code, n*(i+1), of(n), some(i+1, k)...)
		}
	}
	for n, code := range map[int]api.Errno{0: api.OK, 1: api.OK, 2: api.ErrMany, 200: api.ErrMany} {
		for at := range 200 {
			if at%50 == 0 || at == 199 {
				resolves(t, "199 items, and an import of "+strconv.Itoa(n), code, 199+n, of(n), slices.Insert(some(199, a), at, k)...)
			}
		}
	}
	resolves(t, "200 items", api.OK, 200, of(0), some(200, a)...)
	full := func(l ...api.Item) []api.Item { return append(some(1, k), l...) }
	resolves(t, "200", api.OK, 200, of(200), full()...)
	resolves(t, "201", api.ErrMany, 0, of(200), full(a)...)
	resolves(t, "201, a ghost", api.ErrMany, 0, of(200), full(ghost("g", v("a")))...)
	resolves(t, "201, a mode", api.ErrMany, 0, of(200), full(mode("m", v("a"), v("a")))...)
	// All others of an item are told ahead of that.
	resolves(t, "a name", api.ErrName, 0, of(200), full(assume(v("z")))...)
	resolves(t, "a call", api.ErrCall, 0, of(200), full(assume(call("f", v("a"))))...)
	resolves(t, "a ghost twice", api.ErrTwice, 0, of(200), full(ghost("a", v("a")))...)
	resolves(t, "no contract", api.ErrName, 0, of(200), full(imports("q"))...)
	resolves(t, "no argument", api.ErrCall, 0, of(200), full(imports("k"))...)
	resolves(t, "an item ahead", api.ErrMany, 0, of(200), full(a, assume(v("z")))...)
	// So it is with an item that is imported.
	k200 := func(last api.Item) api.Unit { return contract("k", append(some(199, x), last)...) }
	long := strings.Repeat("n", 39)
	first := func(l ...api.Item) []api.Item { return append(l, k) }
	resolves(t, "an import's last", api.ErrMany, 0, k200(x), first(a)...)
	resolves(t, "an import's last ghost", api.ErrMany, 0, k200(ghost("g", v("x"))), first(a)...)
	resolves(t, "an import's last name", api.ErrName, 0, k200(ghost(long, v("x"))), first(a)...)
	resolves(t, "an import's last ghost twice", api.ErrTwice, 0, k200(ghost("g", v("x"))), first(ghost("k_g", v("a")))...)
}

func TestLongExpressions(t *testing.T) {
	with := func(item api.Item) api.Unit { return contract("k", item) }
	// 49 Adds, and 50 times what is put in the places of x.
	e := sum("x", 99)
	kinds := map[string]func(api.Expr) api.Item{
		"assume": assume, "guarantee": func(e api.Expr) api.Item { return api.Item{Kind: api.Guarantee, E: e} },
		"ghost": func(e api.Expr) api.Item { return ghost("g", e) }, "require": func(e api.Expr) api.Item { return mode("m", e, v("x")) }, "ensure": func(e api.Expr) api.Item { return mode("m", v("x"), e) },
	}
	for what, of := range kinds {
		for _, c := range []struct {
			e, by api.Expr
			code  api.Errno
		}{
			{e, sum("a", 99), api.OK}, {nots(1, e), sum("a", 99), api.OK}, {nots(2, e), sum("a", 99), api.ErrMany}, {e, sum("a", 101), api.ErrMany}, {nots(1, e), nots(1, sum("a", 99)), api.ErrMany},
			{e, v("c"), api.OK}, {nots(1, sum("x", 4999)), v("a"), api.OK}, {v("x"), nots(1, sum("a", 4999)), api.OK}, {nots(1, v("x")), nots(1, sum("a", 4999)), api.ErrMany}, {sum("x", 4999), nots(1, v("a")), api.ErrMany}, {sum("x", 4999), nots(1, sum("a", 4999)), api.ErrMany},
			{nots(19, v("x")), nots(20, v("a")), api.OK}, {nots(20, v("x")), nots(20, v("a")), api.ErrMany}, {nots(19, v("x")), nots(21, v("a")), api.ErrMany}, {nots(39, v("x")), v("a"), api.OK}, {nots(39, v("x")), nots(1, v("a")), api.ErrMany}, {v("x"), nots(39, v("a")), api.OK}, {nots(1, v("x")), nots(39, v("a")), api.ErrMany},
			// What is not put there is no matter.
			{v("y"), nots(1, sum("a", 4999)), api.OK}, {nots(39, v("y")), nots(39, v("a")), api.OK}, {op(api.OpAnd, v("x"), nots(37, v("y"))), nots(38, v("a")), api.OK},
		} {
			resolves(t, what, c.code, 1, with(of(c.e)), imports("k", c.by, v("a")))
		}
		resolves(t, what+" of two", api.OK, 1, with(of(op(api.OpAdd, sum("x", 99), sum("y", 199)))), imports("k", sum("a", 49), sum("a", 23)))
		resolves(t, what+" of two", api.OK, 1, with(of(op(api.OpAdd, sum("x", 99), sum("y", 199)))), imports("k", sum("a", 53), sum("a", 21)))
		resolves(t, what+" of two", api.ErrMany, 0, with(of(op(api.OpAdd, sum("x", 99), sum("y", 199)))), imports("k", sum("a", 61), sum("a", 19)))
	}
	// It grows from contract to contract.
	p := program(contract("k", assume(e)), contract("j", imports("k", sum("x", 11), v("y"))), contract("i", imports("j", sum("y", 9), v("y"))))
	if q, f := names.Resolve(p); f != (api.Fault{}) || len(q.Units[2].Items[0].E) != 49+50*(5+6*9) {
		t.Errorf("P8.2: %v", f)
	}
	p.Units[2].Items[0].Args[0] = sum("y", 19)
	if _, f := names.Resolve(p); f != (api.Fault{Code: api.ErrMany, At: 2}) {
		t.Errorf("P8.2: %v", f)
	}
}

func TestLongNames(t *testing.T) {
	l := func(n int) string { return strings.Repeat("z", n) }
	for own := 1; own <= 40; own++ {
		for _, k := range []int{1, 2, 38 - own, 39 - own, 40 - own, 41 - own, 40} {
			if k < 1 || k > 40 {
				continue
			}
			code := api.OK
			if k+1+own > 40 {
				code = api.ErrName
			}
			by := imports(l(k), v("a"), v("a"))
			resolves(t, "a ghost's name", code, 2, contract(l(k), ghost(l(own), v("x")), assume(v(l(own)))), by)
			resolves(t, "a mode's name", code, 2, contract(l(k), assume(v("x")), mode(l(own), v("x"), v("y"))), by)
		}
	}
	resolves(t, "no name", api.OK, 2, contract(l(40), assume(v("x")), api.Item{Kind: api.Guarantee, E: v("y")}), imports(l(40), v("a"), v("a")))
	// Names grow from contract to contract.
	for n, want := range map[int]api.Fault{19: {}, 20: {Code: api.ErrName, At: 2}, 29: {Code: api.ErrName, At: 2}, 30: {Code: api.ErrName, At: 1}} {
		p := program(contract(l(10), ghost(l(n), v("x"))), contract(l(9), imports(l(10), v("y"), v("x"))), contract("k", imports(l(9), v("x"), v("x"))))
		if _, f := names.Resolve(p); f != want {
			t.Errorf("P8.2: %d: %v", n, f)
		}
	}
}

// Of the faults of an item that is imported: its name, its expressions, whether it is there.
func TestOrderOfFaults(t *testing.T) {
	long, deep := strings.Repeat("n", 39), nots(39, v("x"))
	by, more := imports("k", v("a"), v("a")), imports("k", nots(1, v("a")), v("a"))
	taken := ghost("k_g", v("a"))
	for what, c := range map[string]struct {
		k     []api.Item
		items []api.Item
		code  api.Errno
	}{
		"name, then expression":            {[]api.Item{ghost(long, deep)}, []api.Item{more}, api.ErrName},
		"name of a mode":                   {[]api.Item{mode(long, deep, deep)}, []api.Item{more}, api.ErrName},
		"expression, then twice":           {[]api.Item{ghost("g", deep)}, []api.Item{taken, more}, api.ErrMany},
		"twice":                            {[]api.Item{ghost("g", deep)}, []api.Item{taken, by}, api.ErrTwice},
		"twice, then name":                 {[]api.Item{ghost("g", v("x")), ghost(long, v("x"))}, []api.Item{taken, by}, api.ErrTwice},
		"name, then twice":                 {[]api.Item{ghost(long, v("x")), ghost("g", v("x"))}, []api.Item{taken, by}, api.ErrName},
		"expression, then name":            {[]api.Item{assume(deep), ghost(long, v("x"))}, []api.Item{more}, api.ErrMany},
		"twice, then expression":           {[]api.Item{ghost("g", v("x")), assume(deep)}, []api.Item{taken, more}, api.ErrTwice},
		"of the import, then of its items": {[]api.Item{ghost(long, deep)}, []api.Item{imports("k", nots(1, v("z")), v("a"))}, api.ErrName},
		"its count, then its items":        {[]api.Item{ghost(long, deep)}, []api.Item{imports("k", v("a"))}, api.ErrCall},
		"its items, then the next one":     {[]api.Item{assume(deep)}, []api.Item{more, assume(v("z"))}, api.ErrMany},
		"the one ahead, then its items":    {[]api.Item{assume(deep)}, []api.Item{assume(call("f")), more}, api.ErrCall},
	} {
		resolves(t, what, c.code, 0, contract("k", c.k...), c.items...)
	}
}

// A contract whose items grow to millions of nodes is told as quickly as any
// other one: what can't be answered is not put together.
func TestGreat(t *testing.T) {
	big := sum("x", 4999)
	k := contract("k", slices.Repeat([]api.Item{assume(v("y"))}, 199)...)
	k.Items = append(k.Items, assume(big))
	resolves(t, "millions", api.ErrMany, 0, k, imports("k", sum("a", 4999), v("a")))
	// Arguments that are not used, or seldom, are not gone through for each item.
	k.In = nil
	var args []api.Expr
	for i := range 200 {
		k.In = append(k.In, params("x"+strconv.Itoa(i))...)
		args = append(args, sum("a", 4999))
	}
	args[7] = v("a")
	k.Items = slices.Repeat([]api.Item{assume(v("x7"))}, 200)
	resolves(t, "200 arguments", api.OK, 200, k, imports("k", args...))
}

// A call has as many arguments as the node has inputs, up to 38 (more are too deep).
func TestArguments(t *testing.T) {
	for have := range 39 {
		u := node("g")
		u.In = nil
		for i := range have {
			u.In = append(u.In, params("i"+strconv.Itoa(i))...)
		}
		u.Eqs[0].E = tree.Join(api.OpNum, 1, "")
		for _, ask := range []int{have - 1, have, have + 1} {
			if ask < 0 || ask > 38 {
				continue
			}
			n := node("n")
			n.Eqs[0].E = call("g", slices.Repeat([]api.Expr{v("a")}, ask)...)
			want := api.Fault{}
			if ask != have {
				want = api.Fault{Code: api.ErrCall, At: 1}
			}
			if _, f := names.Resolve(program(u, n)); f != want {
				t.Errorf("P8.2: %d arguments of %d: %v", ask, have, f)
			}
		}
	}
}

// expressions are the places of a program's expressions.
func expressions(units []api.Unit) []*api.Expr {
	var l []*api.Expr
	for i := range units {
		for j := range units[i].Eqs {
			l = append(l, &units[i].Eqs[j].E)
		}
		for j := range units[i].Items {
			item := &units[i].Items[j]
			l = append(l, &item.E, &item.F)
			for k := range item.Args {
				l = append(l, &item.Args[k])
			}
		}
	}
	return l
}

// copied is a program that shares nothing with another one.
func copied(p api.Prog) api.Prog {
	p.Units = slices.Clone(p.Units)
	for i := range p.Units {
		u := &p.Units[i]
		u.In, u.Vars, u.Eqs, u.Items = slices.Clone(u.In), slices.Clone(u.Vars), slices.Clone(u.Eqs), slices.Clone(u.Items)
		for j := range u.Items {
			u.Items[j].Args = slices.Clone(u.Items[j].Args)
		}
	}
	for _, e := range expressions(p.Units) {
		*e = slices.Clone(*e)
	}
	return p
}

// scrawl writes over a program, and over the spare room of its lists.
func scrawl(p api.Prog) {
	for _, e := range expressions(p.Units) {
		over(*e, api.Node{Op: -9, Name: "scrawled"})
	}
	for _, u := range p.Units {
		for i := range u.Items {
			over(u.Items[i].Args, api.Expr{{Op: -7}})
		}
		over(u.In, api.Param{Name: "scrawled"})
		over(u.Vars, api.Param{Name: "scrawled"})
		over(u.Eqs, api.Equation{Name: "scrawled"})
		over(u.Items, api.Item{Name: "scrawled"})
	}
	over(p.Units, api.Unit{Name: "scrawled"})
}

func over[T any](l []T, x T) {
	l = l[:cap(l)]
	for i := range l {
		l[i] = x
	}
}

func TestAnswersAreNew(t *testing.T) {
	p := read(t, more+"contract none() assume true; mode m require true ensure false; end "+f+"contract import k(a); import none(); assume b; end var d: int; let c = h(a); d = 1; tel node g(a: int; b: bool) returns (c: int) contract import none(); import k(a); end let c = a; tel main f; fallback g;")
	first := copied(p)
	q, fault := names.Resolve(p)
	if fault != (api.Fault{}) || !same(p, first) {
		t.Fatalf("R5: %v, %v", fault, p)
	}
	want := copied(q)
	scrawl(p)
	if !same(q, want) {
		t.Error("R5: what was handed in is kept")
	}
	p = copied(first)
	scrawl(q)
	if again, _ := names.Resolve(p); !same(p, first) || !same(again, want) {
		t.Error("R5: what was handed in is changed")
	}
	for i := range want.Units {
		q, _ = names.Resolve(p)
		scrawl(api.Prog{Units: q.Units[i : i+1 : i+1]})
		for j := range want.Units {
			if j != i && !sameUnit(q.Units[j], want.Units[j]) {
				t.Errorf("R5: units %d and %d share memory", i, j)
			}
		}
	}
	// A fault leaves what was handed in as it is, too.
	p = read(t, more+f+"contract import k(a); end let c = k_g; tel main f;")
	first = copied(p)
	if _, f := names.Resolve(p); f != (api.Fault{Code: api.ErrGhost, At: 3}) || !same(p, first) || list.Write(p) != list.Write(first) {
		t.Errorf("R5: %v", f)
	}
}
