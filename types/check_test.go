package types_test

import (
	"math"
	"strconv"
	"testing"

	"bailment/api"
	"bailment/prog"
	"bailment/types"
)

// read is a program that has no fault.
func read(t *testing.T, s string) api.Prog {
	t.Helper()
	p, f := prog.Parse(s)
	if f.Code != api.OK {
		t.Fatalf("%.300q: %v", s, f)
	}
	return p
}

// checks tells that a program has a fault, or none.
func checks(t *testing.T, what string, p api.Prog, want api.Fault) {
	t.Helper()
	for range 2 {
		if got := types.Check(p); got != want {
			t.Errorf("P9.2: %.300s: %v, not %v", what, got, want)
		}
	}
}

const (
	ahead = "contract k(x: int; y: bool) ghost g: int = x; assume y; end node h(x: int; y: bool) returns (z: int) let z = x; tel node p(x: int) returns (z: bool) let z = x > 0; tel "
	first = "node f(a: int; b: bool) returns (c: int) "
	vars  = "var d: bool; e: int; "
	lets  = "let c = a; d = b; e = a; tel "
	last  = "node r(a: int) returns (c: int) let c = a; tel contract s(a: bool) end main f;"
)

// items are faults of items: in node f, behind the units that stand ahead.
var items = map[string]api.Errno{
	"": 0, "assume b;": 0, "guarantee b;": 0, "ghost g: int = a;": 0, "ghost g: bool = b;": 0, "mode m require b ensure d;": 0,
	"assume a;": api.ErrType, "guarantee a;": api.ErrType, "assume z;": api.ErrName, "guarantee z;": api.ErrName, "assume not a;": api.ErrType, "guarantee a + b > 1;": api.ErrType,
	"ghost g: int = b;": api.ErrType, "ghost g: bool = a;": api.ErrType, "ghost g: bool = z;": api.ErrName, "ghost g: bool = 1 and b;": api.ErrType,
	"mode m require a ensure b;": api.ErrType, "mode m require b ensure a;": api.ErrType, "mode m require z ensure b;": api.ErrName, "mode m require b ensure z;": api.ErrName,
	// What is required is told ahead of what is ensured.
	"mode m require a ensure z;": api.ErrType, "mode m require z ensure a;": api.ErrName, "mode m require h(a, b) ensure z;": api.ErrCall, "mode m require z ensure h(a, b);": api.ErrName, "mode m require 1 ensure p(a);": api.ErrType,
	// All streams are seen.
	"assume a = e;": 0, "assume b = d;": 0, "assume c = a;": 0, "assume a = d;": api.ErrType, "assume b = e;": api.ErrType, "assume c = b;": api.ErrType, "assume x > 0;": api.ErrName, "assume f;": api.ErrName,
	// No units are.
	"assume p(a);": api.ErrCall, "guarantee p(1);": api.ErrCall, "ghost g: int = h(a, b);": api.ErrCall, "ghost g: bool = p(a);": api.ErrCall, "mode m require p(a) ensure b;": api.ErrCall, "mode m require b ensure p(a);": api.ErrCall, "assume q();": api.ErrCall, "assume f(a, b) > 0;": api.ErrCall, "assume r(a) > 0;": api.ErrCall, "assume k(a, b);": api.ErrCall, "assume p(z);": api.ErrName, "assume p(not a);": api.ErrType,
	// The ghosts ahead are seen, as what they are told to be.
	"ghost g: int = a; assume g > 0;": 0, "ghost g: int = a; assume g;": api.ErrType, "ghost g: bool = b; assume g;": 0, "ghost g: bool = b; guarantee g + 1 > 0;": api.ErrType, "ghost g: bool = b; ghost h: bool = g;": 0, "ghost g: bool = b; ghost h: int = g;": api.ErrType, "ghost g: bool = b; mode m require g ensure g;": 0, "ghost g: int = 1; mode m require g = 1 ensure g;": api.ErrType, "ghost g: int = 1; mode m require g ensure g = 1;": api.ErrType, "ghost g: bool = b; ghost h: bool = not g; assume g; assume h; guarantee g xor h;": 0,
	"assume g; ghost g: bool = b;": api.ErrName, "ghost g: bool = g;": api.ErrName, "ghost g: bool = pre g;": api.ErrName, "ghost g: bool = h; ghost h: bool = b;": api.ErrName, "mode m require b ensure g; ghost g: bool = b;": api.ErrName,
	// Of streams and ghosts of one name the first one counts.
	"ghost a: bool = b; assume a;": api.ErrType, "ghost a: bool = b; assume a > 0;": 0, "ghost d: int = 1; assume d;": 0, "ghost c: bool = b; assume c = a;": 0, "ghost g: int = 1; ghost g: bool = b; assume g;": api.ErrType, "ghost g: int = 1; ghost g: bool = b; assume g = 1;": 0, "ghost g: int = 1; ghost g: bool = b; ghost g: bool = b; guarantee g = 1;": 0, "ghost a: bool = a;": api.ErrType, "ghost a: int = a;": 0,
	// Nothing is asked of an import, and nothing is seen of it.
	"import k(a, b);": 0, "import k(b, a);": 0, "import k();": 0, "import q();": 0, "import k(z);": 0, "import k(not a, 1 + b, q());": 0, "import k(a, b); assume k_g > 0;": api.ErrName, "import k(a, b); assume g > 0;": api.ErrName, "import k(a, b); assume k;": api.ErrName, "import k(a, b); assume b; import k(b, a);": 0, "import k(z); assume a;": api.ErrType,
	// A mode is no stream.
	"mode m require b ensure b; assume m;": api.ErrName, "mode m require b ensure b; mode m require b ensure b;": 0,
	// They are looked at one by one.
	"assume a; assume z;": api.ErrType, "assume z; assume a;": api.ErrName, "assume p(a); assume z; assume a;": api.ErrCall, "assume b; guarantee d; assume z; ghost g: int = b;": api.ErrName, "assume b; ghost g: int = b; assume z;": api.ErrType, "ghost g: int = b; assume z;": api.ErrType, "guarantee b; guarantee b; guarantee b; guarantee a;": api.ErrType, "mode m require b ensure a; assume z;": api.ErrType, "guarantee z; mode m require a ensure a;": api.ErrName,
}

func TestItems(t *testing.T) {
	for s, code := range items {
		want := api.Fault{}
		if code != api.OK {
			want = api.Fault{Code: code, At: 3}
		}
		checks(t, s, read(t, ahead+first+"contract "+s+" end "+vars+lets+last), want)
		// In a contract they are the same; its streams are its inputs.
		checks(t, s+" in a contract", read(t, ahead+"contract f(a: int; b: bool; c: int; d: bool; e: int) "+s+" end "+last), want)
		if code == api.OK {
			continue
		}
		// They are told ahead of all faults of equations, and of units behind.
		for _, broken := range []string{"let z = 1; tel ", "let c = z; tel ", "let c = q(); tel ", "let c = true; tel ", lets + "contract t(a: int) assume a; end "} {
			checks(t, s+" ahead of "+broken, read(t, ahead+first+"contract "+s+" end "+vars+broken+last), want)
		}
	}
}

// equations are faults of equations: in node f, behind the units that stand ahead.
var equations = map[string]api.Errno{
	"": 0, "c = a;": 0, "c = b;": api.ErrType, "d = b;": 0, "d = a;": api.ErrType, "e = a;": 0, "e = b;": api.ErrType, "c = 0 -> pre c + 1;": 0, "d = a > 0 and once b;": 0,
	// A name is that of a stream; inputs are streams.
	"a = 1;": 0, "a = b;": api.ErrType, "b = true;": 0, "b = 1;": api.ErrType, "z = 1;": api.ErrName, "g = 1;": api.ErrName, "m = b;": api.ErrName, "f = 1;": api.ErrName, "h = 1;": api.ErrName, "x = 1;": api.ErrName, "k_g = 1;": api.ErrName, "c = 1; c = 1; c = c;": 0, "c = 1; c = b;": api.ErrType,
	// What stands in them: no ghosts, units ahead.
	"c = z;": api.ErrName, "c = g;": api.ErrName, "c = pre g;": api.ErrName, "d = m;": api.ErrName, "c = a + b;": api.ErrType, "c = not a;": api.ErrType,
	"c = h(a, b);": 0, "c = h(c, d) + h(1, p(2));": 0, "d = p(a);": 0, "c = p(a);": api.ErrType, "d = h(a, b);": api.ErrType, "c = h(b, a);": api.ErrType, "c = h(a, a);": api.ErrType, "c = h(a);": api.ErrCall, "c = h(a, b, a);": api.ErrCall, "c = h();": api.ErrCall, "d = p();": api.ErrCall, "c = k(a, b);": api.ErrCall, "c = q();": api.ErrCall, "c = f(a, b);": api.ErrCall, "c = r(a);": api.ErrCall, "c = s();": api.ErrCall, "c = r();": api.ErrCall,
	// The name is told first, then what is in the expression, then its type.
	"z = g;": api.ErrName, "z = h();": api.ErrName, "z = not a;": api.ErrName, "d = h();": api.ErrCall, "d = 1 + g;": api.ErrName, "c = h() > 0;": api.ErrCall, "c = z > 0;": api.ErrName,
	// They are looked at one by one.
	"c = b; z = 1;": api.ErrType, "z = 1; c = b;": api.ErrName, "c = h(); z = 1;": api.ErrCall, "c = a; d = b; e = a; c = q(); d = a;": api.ErrCall, "c = a; d = a; e = q();": api.ErrType,
}

func TestEquations(t *testing.T) {
	for s, code := range equations {
		want := api.Fault{}
		if code != api.OK {
			want = api.Fault{Code: code, At: 3}
		}
		for _, of := range []string{"", "contract ghost g: int = a; mode m require b ensure b; import k(a, b); end "} {
			head := ahead + first + of + vars + "let "
			checks(t, s, read(t, head+s+" tel "+last), want)
			if code != api.OK {
				checks(t, s, read(t, head+s+" tel node t(a: int) returns (c: bool) let c = z; z = a; tel "+last), want)
			}
		}
	}
}

// Units are looked at one by one, and see those ahead of them.
func TestUnits(t *testing.T) {
	const f, g = "node f(a: int) returns (c: int) let c = a; tel ", "node f(a: bool) returns (c: bool) let c = a; tel "
	const i, b = "node i() returns (c: int) let c = f(1); tel ", "node i() returns (c: bool) let c = f(true); tel "
	const k = "contract f(a: int) end "
	for s, want := range map[string]api.Fault{
		"": {}, f: {}, f + i: {}, g + b: {}, f + g + i: {}, g + f + b: {}, k + f + i: {}, f + k + i: {}, k + k + g + f + b: {},
		i: {Code: api.ErrCall}, i + f: {Code: api.ErrCall}, k + i: {Code: api.ErrCall, At: 1}, k + i + f: {Code: api.ErrCall, At: 1}, f + b: {Code: api.ErrType, At: 1}, g + i: {Code: api.ErrType, At: 1}, f + g + b: {Code: api.ErrType, At: 2}, g + f + i: {Code: api.ErrType, At: 2}, k + g + f + i: {Code: api.ErrType, At: 3}, f + i + f + b + i: {Code: api.ErrType, At: 3}, f + f + f + b: {Code: api.ErrType, At: 3}, f + i + b + "contract j() assume z; end ": {Code: api.ErrType, At: 2}, f + i + "contract j() assume z; end " + b: {Code: api.ErrName, At: 2},
		"node i() returns (c: int) let c = i(); tel ":                                                          {Code: api.ErrCall},
		f + "node i() returns (c: int) let c = f(f(f(1))); tel node j() returns (c: int) let c = f(i()); tel ": {},
		// Streams and ghosts are those of the unit itself.
		"contract l(x: bool) ghost g: bool = x; end contract j() assume g; end ":                                                                          {Code: api.ErrName, At: 1},
		"contract l(x: bool) ghost g: bool = x; end contract j() assume x; end ":                                                                          {Code: api.ErrName, At: 1},
		"contract l(x: bool) ghost g: bool = x; end contract j(g: int) assume g; end ":                                                                    {Code: api.ErrType, At: 1},
		"node l() returns (c: int) var x: int; let c = 1; x = 1; tel node j() returns (d: int) let d = x; tel ":                                           {Code: api.ErrName, At: 1},
		"node l() returns (c: int) var x: int; let c = 1; x = 1; tel node j() returns (d: int) let c = 1; tel ":                                           {Code: api.ErrName, At: 1},
		"node l(a: bool) returns (c: bool) var d: bool; let c = d; tel node j(a: int) returns (c: int) var d: int; let c = d + a; d = c; a = d + c; tel ": {},
		// Of streams of one name the first one counts: of inputs, Out and Vars, in this order.
		"node j(a: int) returns (a: bool) let a = 1; tel ": {}, "node j(a: int) returns (a: bool) let a = true; tel ": {Code: api.ErrType}, "node j() returns (a: bool) var a: int; let a = true; tel ": {}, "node j() returns (a: bool) var a: int; let a = 1; tel ": {Code: api.ErrType}, "node j(a: bool; a: int) returns (c: int) let c = a; tel ": {Code: api.ErrType}, "node j(a: int) returns (c: int) var a: bool; let c = a; tel ": {}, "node j() returns (c: int) var a: bool; a: int; let c = a; tel ": {Code: api.ErrType}, "contract j(a: bool; a: int) assume a; end ": {},
	} {
		checks(t, s, read(t, s+"main f;"), want)
	}
	// Main and the fallback are no matter.
	checks(t, "main", read(t, f+"main q; fallback z;"), api.Fault{})
	checks(t, "nothing", api.Prog{}, api.Fault{})
}

// A program need not be one that can be written.
func TestOdd(t *testing.T) {
	one := func(name string, x int) []api.Param { return []api.Param{{Name: name, Type: x}} }
	a, i := v("a"), one("a", api.Int)
	unit := func(l ...api.Item) api.Prog { return api.Prog{Units: []api.Unit{{}, {In: i, Items: l}}} }
	wrong := []api.Expr{a, v("z"), nil}
	for what, c := range map[string]struct {
		p    api.Prog
		want api.Errno
	}{
		// An expression that may not be.
		"assume":    {unit(api.Item{Kind: api.Assume}), api.ErrArg},
		"guarantee": {unit(api.Item{Kind: api.Guarantee, E: api.Expr{a[0], a[0]}}), api.ErrArg},
		"ghost":     {unit(api.Item{Kind: api.Ghost, Name: "g"}), api.ErrArg},
		"mode":      {unit(api.Item{Kind: api.Mode, E: op(api.OpEq, a, a)}), api.ErrArg},
		"mode, too": {unit(api.Item{Kind: api.Mode, F: v("z")}), api.ErrArg},
		"equation":  {api.Prog{Units: []api.Unit{{}, {In: i, Eqs: []api.Equation{{Name: "a"}}}}}, api.ErrArg},
		"no stream": {api.Prog{Units: []api.Unit{{}, {In: i, Eqs: []api.Equation{{Name: "z"}}}}}, api.ErrName},
		// What an item's kind does not name is no matter; nor are items of no kind.
		"import":       {unit(api.Item{Kind: api.Import, E: a, F: a, Args: wrong}), api.OK},
		"no kind":      {unit(api.Item{E: a}, api.Item{Kind: 6, E: a}, api.Item{Kind: -1, E: a, F: a, Args: wrong}), api.OK},
		"assume more":  {unit(api.Item{Kind: api.Assume, Name: "a", Type: api.Int, E: op(api.OpEq, a, a), F: a, Args: wrong}), api.OK},
		"promise more": {unit(api.Item{Kind: api.Guarantee, Name: "a", Type: api.Int, E: op(api.OpEq, a, a), F: a, Args: wrong}), api.OK},
		"mode more":    {unit(api.Item{Kind: api.Mode, Type: api.Int, E: op(api.OpEq, a, a), F: op(api.OpNe, a, a), Args: wrong}), api.OK},
		"ghost more":   {unit(api.Item{Kind: api.Ghost, Name: "g", Type: api.Int, E: a, F: v("z"), Args: wrong}), api.OK},
		"assumed Int":  {unit(api.Item{Kind: api.Assume, Type: api.Int, E: a}), api.ErrType},
		"assumed name": {unit(api.Item{Kind: api.Assume, Name: "g", Type: api.Bool, E: op(api.OpEq, a, a)}, api.Item{Kind: api.Assume, E: v("g")}), api.ErrName},
		"import ghost": {unit(api.Item{Kind: api.Import, Name: "g", Type: api.Bool}, api.Item{Kind: api.Assume, E: v("g")}), api.ErrName},
		// A contract's streams are its inputs alone, and its equations are looked at, too.
		"contract":      {api.Prog{Units: []api.Unit{{}, {Contract: true, In: i, Eqs: []api.Equation{{Name: "a", E: a}}}}}, api.OK},
		"contract type": {api.Prog{Units: []api.Unit{{}, {Contract: true, In: one("a", api.Bool), Eqs: []api.Equation{{Name: "a", E: wide(1)}, {Name: "a", E: op(api.OpNeg, a)}}}}}, api.ErrType},
		"contract out":  {api.Prog{Units: []api.Unit{{}, {Contract: true, In: i, Out: one("o", api.Int)[0], Eqs: []api.Equation{{Name: "o", E: a}}}}}, api.ErrName},
		"contract var":  {api.Prog{Units: []api.Unit{{}, {Contract: true, In: i, Vars: one("o", api.Bool), Items: []api.Item{{Kind: api.Assume, E: v("o")}}}}}, api.ErrName},
		"node out":      {api.Prog{Units: []api.Unit{{}, {In: i, Out: one("o", api.Int)[0], Eqs: []api.Equation{{Name: "o", E: a}}}}}, api.OK},
		"node var":      {api.Prog{Units: []api.Unit{{}, {In: i, Vars: one("o", api.Bool), Items: []api.Item{{Kind: api.Assume, E: v("o")}}}}}, api.OK},
		"no contract":   {api.Prog{Units: []api.Unit{{Contract: true, Name: "f"}, {Vars: i, Eqs: []api.Equation{{Name: "a", E: call("f")}}}}}, api.ErrCall},
	} {
		want := api.Fault{}
		if c.want != api.OK {
			want = api.Fault{Code: c.want, At: 1}
		}
		checks(t, what, c.p, want)
	}
	// Types of their own: of ghosts, of streams, of what nodes take and are.
	for _, x := range every {
		for _, y := range every {
			units := []api.Unit{{Name: "f", In: one("a", y), Out: one("o", x)[0]}, {In: one("a", y), Vars: one("b", x), Eqs: []api.Equation{{Name: "b", E: call("f", a)}}}}
			checks(t, "call", api.Prog{Units: units}, api.Fault{})
			units[1].Eqs = append(units[1].Eqs, api.Equation{Name: "a", E: v("b")})
			want, item := api.Fault{}, api.Fault{}
			if x != y {
				want = api.Fault{Code: api.ErrType, At: 1}
			}
			checks(t, "equation", api.Prog{Units: units}, want)
			units[1] = api.Unit{In: one("a", y), Items: []api.Item{{Kind: api.Ghost, Name: "g", Type: x, E: a}}}
			checks(t, "ghost", api.Prog{Units: units}, want)
			units[1] = api.Unit{In: one("a", y), Items: []api.Item{{Kind: api.Ghost, Name: "g", Type: y, E: a}, {Kind: api.Ghost, Name: "h", Type: x, E: v("g")}}}
			checks(t, "ghosts", api.Prog{Units: units}, want)
			if x != api.Bool {
				item = api.Fault{Code: api.ErrType, At: 1}
			}
			for _, k := range []int{api.Assume, api.Guarantee} {
				checks(t, "item", api.Prog{Units: []api.Unit{{}, {In: one("a", x), Items: []api.Item{{Kind: k, E: a}}}}}, item)
			}
			checks(t, "mode", api.Prog{Units: []api.Unit{{}, {In: []api.Param{{Name: "a", Type: x}, {Name: "b", Type: api.Bool}}, Items: []api.Item{{Kind: api.Mode, E: v("b"), F: a}}}}}, item)
			checks(t, "mode", api.Prog{Units: []api.Unit{{}, {In: []api.Param{{Name: "a", Type: x}, {Name: "b", Type: api.Bool}}, Items: []api.Item{{Kind: api.Mode, E: a, F: v("b")}}}}}, item)
		}
	}
}

// A check ends soon, however many things there are of each kind.
func TestManyThings(t *testing.T) {
	const many = 100000
	var streams []api.Param
	var units []api.Unit
	var ghosts []api.Item
	var eqs []api.Equation
	for i := range many {
		name := "x" + strconv.Itoa(i)
		streams = append(streams, api.Param{Name: name, Type: i})
		units = append(units, api.Unit{Name: name, In: []api.Param{{Type: api.Int}}, Out: api.Param{Type: api.Int}, Vars: []api.Param{{Name: "a", Type: api.Int}}, Eqs: []api.Equation{{Name: "a", E: v("a")}}})
		ghosts = append(ghosts, api.Item{Kind: api.Ghost, Name: "g" + name, Type: i, E: v(name)})
		eqs = append(eqs, api.Equation{Name: name, E: v(name)})
	}
	is(t, v("x"+strconv.Itoa(many-1)), streams, units, many-1, api.OK)
	is(t, call("x"+strconv.Itoa(many-1), wide(4001)), []api.Param{{Name: "a", Type: api.Int}}, units, api.Int, api.OK)
	p := api.Prog{Units: append(units, api.Unit{In: streams, Items: ghosts, Eqs: eqs})}
	checks(t, "many", p, api.Fault{})
	p.Units[many].Eqs = append(eqs, api.Equation{Name: "x7", E: v("x8")})
	checks(t, "many", p, api.Fault{Code: api.ErrType, At: many})
	p.Units[many].Items = append(ghosts, api.Item{Kind: api.Assume, E: v("gx" + strconv.Itoa(math.MaxInt16))}, api.Item{Kind: api.Assume, E: v("z")})
	p.Units[many].Eqs = nil
	checks(t, "many", p, api.Fault{Code: api.ErrType, At: many})
}
