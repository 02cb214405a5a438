package inits_test

import (
	"testing"

	"bailment/api"
	"bailment/inits"
	"bailment/prog"
)

// checks tells that a program has a fault, or none.
func checks(t *testing.T, what string, p api.Prog, want api.Fault) {
	t.Helper()
	for range 2 {
		if got := inits.Check(p); got != want {
			t.Errorf("P10.2: %.300s: %v, not %v", what, got, want)
		}
	}
}

func TestSources(t *testing.T) {
	const f, let = "node f(a: int; b: bool) returns (c: int) ", "var d: bool; let c = 0 -> pre c; d = b; tel "
	for of, want := range map[string]api.Errno{
		"let c = a; ": 0, "let ": 0, "let c = 0 -> pre c + 1; ": 0, "let c = pre a; ": api.ErrInit, "let c = pre pre a; ": api.ErrInit, "let c = pre c -> 1; ": api.ErrInit, "let c = f(pre a); ": api.ErrInit, "let c = f(a); ": 0, "var d: int; let c = d; d = pre c; ": api.ErrInit, "var d: int; let c = pre d; d = c; ": api.ErrInit, "var d: int; e: int; let c = d; d = 0 -> pre e; e = c; ": 0, "let z = pre z; ": api.ErrInit,
		"contract assume b; guarantee c > 0; end let ": 0, "contract assume pre b; end let ": api.ErrInit, "contract guarantee pre b; end let ": api.ErrInit, "contract guarantee true -> pre b; end let ": 0, "contract guarantee once pre b; end let ": api.ErrInit, "contract guarantee once b; end let ": 0,
		"contract ghost g: bool = pre b; end let ": api.ErrInit, "contract ghost g: bool = false -> pre b; assume g; end let ": 0, "contract ghost g: bool = pre g; end let ": api.ErrInit,
		"contract mode m require pre b ensure b; end let ": api.ErrInit, "contract mode m require b ensure pre b; end let ": api.ErrInit, "contract mode m require prev b ensure b -> pre b; end let ": 0,
		"contract import k(pre a); end let ": api.ErrInit, "contract import k(a, pre a, a); end let ": api.ErrInit, "contract import k(a, a, pre pre a); end let ": api.ErrInit, "contract import k(a, 0 -> pre a); import k(); end let ": 0,
		"contract assume b; assume b; guarantee b; mode m require b ensure b; import k(a); assume pre b; end let ": api.ErrInit,
	} {
		fault, behind := api.Fault{}, api.Fault{}
		if want != api.OK {
			fault, behind = api.Fault{Code: want}, api.Fault{Code: want, At: 3}
		}
		for ahead, fault := range map[string]api.Fault{"": fault, f + let + "contract k(a: int) assume prev (a > 0); end node g() returns (c: int) let c = 1; tel ": behind} {
			s := ahead + f + of + "tel node h() returns (c: int) let c = 1; tel "
			for _, s := range []string{s + "main f;", s + "main h; fallback h;"} {
				p, wrong := prog.Parse(s)
				if wrong.Code != api.OK {
					t.Fatalf("%q: %v", s, wrong)
				}
				checks(t, s, p, fault)
			}
		}
	}
	checks(t, "nothing", api.Prog{}, api.Fault{})
	checks(t, "empty units", api.Prog{Units: make([]api.Unit, 5)}, api.Fault{})
}

// Of several faults the first one is told: of units one by one, of equations
// ahead of items, of an item's E, F and Args, in this order.
func TestFirst(t *testing.T) {
	good, late := v("a"), op(api.OpPre, v("a"))
	twice := op(api.OpPre, late)
	broken := api.Expr{v("a")[0], v("a")[0]}
	eqs := func(l ...api.Expr) (out []api.Equation) {
		for _, e := range l {
			out = append(out, api.Equation{Name: "a", E: e})
		}
		return out
	}
	args := func(l ...api.Expr) api.Item { return api.Item{Kind: api.Import, Args: l} }
	mode := func(e, f api.Expr) api.Item { return api.Item{Kind: api.Mode, E: e, F: f} }
	items := func(l ...api.Item) []api.Item { return l }
	for i, c := range []struct {
		u    api.Unit
		want api.Errno
	}{
		{api.Unit{Eqs: eqs(good, late, broken)}, api.ErrInit}, {api.Unit{Eqs: eqs(good, broken, late)}, api.ErrArg}, {api.Unit{Eqs: eqs(good, good, twice, broken)}, api.ErrInit}, {api.Unit{Eqs: eqs(broken, twice)}, api.ErrArg},
		// An equation's E must be there, an item's need not.
		{api.Unit{Eqs: eqs(nil)}, api.ErrArg}, {api.Unit{Eqs: eqs(good, api.Expr{}, late)}, api.ErrArg}, {api.Unit{Eqs: eqs(late, nil)}, api.ErrInit}, {api.Unit{Items: items(mode(nil, nil), args(), args(nil, api.Expr{}, nil), mode(api.Expr{}, good))}, api.OK}, {api.Unit{Items: items(mode(nil, late))}, api.ErrInit}, {api.Unit{Items: items(args(nil, nil, late))}, api.ErrInit}, {api.Unit{Items: items(args(nil, broken, nil))}, api.ErrArg},
		{api.Unit{Eqs: eqs(late), Items: items(mode(broken, broken))}, api.ErrInit}, {api.Unit{Eqs: eqs(good, broken), Items: items(mode(late, late))}, api.ErrArg}, {api.Unit{Eqs: eqs(good), Items: items(mode(late, broken))}, api.ErrInit}, {api.Unit{Eqs: eqs(good), Items: items(mode(broken, late))}, api.ErrArg}, {api.Unit{Items: items(mode(good, twice))}, api.ErrInit}, {api.Unit{Items: items(mode(good, broken))}, api.ErrArg},
		{api.Unit{Items: items(api.Item{E: good, F: late, Args: []api.Expr{broken}})}, api.ErrInit}, {api.Unit{Items: items(api.Item{E: good, F: broken, Args: []api.Expr{late}})}, api.ErrArg}, {api.Unit{Items: items(api.Item{E: late, F: good, Args: []api.Expr{broken}})}, api.ErrInit}, {api.Unit{Items: items(api.Item{E: broken, F: good, Args: []api.Expr{late}})}, api.ErrArg},
		{api.Unit{Items: items(args(good, late, broken))}, api.ErrInit}, {api.Unit{Items: items(args(good, broken, late))}, api.ErrArg}, {api.Unit{Items: items(args(good), args(late), args(broken))}, api.ErrInit}, {api.Unit{Items: items(mode(good, good), args(good, good), mode(good, broken), args(late))}, api.ErrArg},
		// What a thing is does not matter.
		{api.Unit{Contract: true, Eqs: eqs(late)}, api.ErrInit}, {api.Unit{Contract: true, Eqs: eqs(nil)}, api.ErrArg}, {api.Unit{Contract: true, Items: items(mode(good, late))}, api.ErrInit}, {api.Unit{Contract: true, Eqs: eqs(good), Items: items(mode(good, good))}, api.OK},
	} {
		want := api.Fault{}
		if c.want != api.OK {
			want = api.Fault{Code: c.want, At: 2}
		}
		other := api.Unit{Eqs: eqs(late, broken)}
		checks(t, "case", api.Prog{Units: []api.Unit{{Eqs: eqs(good)}, {Items: items(mode(good, nil))}, c.u, {}}}, want)
		if t.Failed() {
			t.Fatalf("case %d", i)
		}
		if c.want != api.OK {
			checks(t, "case", api.Prog{Units: []api.Unit{{}, {}, c.u, other, c.u}}, want)
		}
		checks(t, "case", api.Prog{Units: []api.Unit{{}, other, c.u}}, api.Fault{Code: api.ErrInit, At: 1})
	}
	// All that an item has is looked at, of whatever kind it is.
	for kind := -1; kind <= 7; kind++ {
		for _, e := range []api.Expr{late, twice} {
			for _, i := range []api.Item{{Kind: kind, E: e}, {Kind: kind, F: e}, {Kind: kind, E: good, F: e}, {Kind: kind, Args: []api.Expr{e}}, {Kind: kind, E: good, F: good, Args: []api.Expr{good, e}}} {
				checks(t, "kind", api.Prog{Units: []api.Unit{{Items: items(api.Item{}, i)}}}, api.Fault{Code: api.ErrInit})
			}
		}
		checks(t, "kind", api.Prog{Units: []api.Unit{{Items: items(api.Item{Kind: kind})}}}, api.Fault{})
		checks(t, "kind", api.Prog{Units: []api.Unit{{Items: items(api.Item{Kind: kind, E: good, F: good, Args: []api.Expr{good}})}}}, api.Fault{})
		checks(t, "kind", api.Prog{Units: []api.Unit{{Items: items(api.Item{Kind: kind, F: broken})}}}, api.Fault{Code: api.ErrArg})
	}
}
