package names_test

import (
	"slices"
	"strconv"
	"strings"
	"testing"

	"bailment/api"
	"bailment/list"
	"bailment/names"
	"bailment/prog"
	"bailment/tree"
)

func v(name string) api.Expr { return tree.Join(api.OpVar, 0, name) }

func op(op int, parts ...api.Expr) api.Expr { return tree.Join(op, 0, "", parts...) }

func call(name string, parts ...api.Expr) api.Expr { return tree.Join(api.OpCall, 0, name, parts...) }

func sameItem(a, b api.Item) bool {
	return a.Kind == b.Kind && a.Name == b.Name && a.Type == b.Type && slices.Equal(a.E, b.E) && slices.Equal(a.F, b.F) &&
		slices.EqualFunc(a.Args, b.Args, slices.Equal)
}

func sameEquation(a, b api.Equation) bool { return a.Name == b.Name && slices.Equal(a.E, b.E) }

func sameUnit(a, b api.Unit) bool {
	return a.Contract == b.Contract && a.Name == b.Name && slices.Equal(a.In, b.In) && a.Out == b.Out && slices.Equal(a.Vars, b.Vars) &&
		slices.EqualFunc(a.Eqs, b.Eqs, sameEquation) && slices.EqualFunc(a.Items, b.Items, sameItem)
}

// same tells whether programs are one, whether lists without elements are nil or not.
func same(a, b api.Prog) bool {
	return a.Main == b.Main && a.Back == b.Back && slices.EqualFunc(a.Units, b.Units, sameUnit)
}

// read is a program that has no fault.
func read(t *testing.T, s string) api.Prog {
	t.Helper()
	p, f := prog.Parse(s)
	if f.Code != api.OK {
		t.Fatalf("%.300q: %v", s, f)
	}
	return p
}

// gives tells that a source is resolved, and what it is then.
func gives(t *testing.T, s string, want string) {
	t.Helper()
	q, f := names.Resolve(read(t, s))
	if f != (api.Fault{}) || !same(q, read(t, want)) {
		t.Fatalf("P8.2: %.500q: %.500q, %v; not %.500q", s, list.Write(q), f, want)
	}
	settled(t, q)
}

// settled tells what is so of all that is resolved.
func settled(t *testing.T, q api.Prog) {
	t.Helper()
	for _, u := range q.Units {
		if slices.ContainsFunc(u.Items, func(i api.Item) bool { return i.Kind == api.Import }) {
			t.Fatalf("P8.3: %.500q has an import", list.Write(q))
		}
	}
	if again, f := names.Resolve(q); f != (api.Fault{}) || !same(again, q) {
		t.Fatalf("P8.3: %.500q: %.500q, %v", list.Write(q), list.Write(again), f)
	}
}

// fails tells that a source has a fault.
func fails(t *testing.T, s string, code api.Errno, at int) {
	t.Helper()
	q, f := names.Resolve(read(t, s))
	if f != (api.Fault{Code: code, At: at}) || len(q.Units) != 0 || q.Main != "" || q.Back != "" {
		t.Fatalf("P8.2: %.500q .. %.100q: %v, not %d at %d", s, s[max(0, len(s)-100):], f, code, at)
	}
}

// The contracts and nodes that stand ahead in what follows: those are units 0 to 2.
const (
	k    = "contract k(x: int) ghost g: int = x + 1; mode m require g > 0 ensure g > x; end "
	two  = "contract two(x: int; y: int) assume x < y; end "
	h    = "node h(a: int) returns (c: int) let c = a; tel "
	more = k + two + h
	f    = "node f(a: int; b: bool) returns (c: int) "
	rest = "let c = a; tel main f;"
	kept = "contract k(x: int) ghost g: int = x + 1; mode m require 0 < g ensure x < g; end "
)

func TestExample(t *testing.T) {
	gives(t, more+f+"contract import k(a); end "+rest, kept+two+h+f+"contract ghost k_g: int = a + 1; mode k_m require 0 < k_g ensure a < k_g; end "+rest)
}

func TestFind(t *testing.T) {
	p := read(t, "contract k() end node f() returns (a: int) let tel contract f() end contract k() end main z; fallback y;")
	for name, want := range map[string]int{"k": 0, "f": 1, "z": -1, "y": -1, "a": -1, "": -1, "K": -1, "kf": -1} {
		if i := names.Find(p, name); i != want {
			t.Errorf("P8.1: %q: %d, not %d", name, i, want)
		}
	}
	odd := api.Prog{Units: []api.Unit{{Name: "A b"}, {}, {Name: "A b"}, {Name: "c"}}}
	for name, want := range map[string]int{"A b": 0, "": 1, "c": 3, "A": -1} {
		if i := names.Find(odd, name); i != want {
			t.Errorf("P8.1: %q: %d, not %d", name, i, want)
		}
	}
	for i := range 300 {
		odd.Units = append(odd.Units, api.Unit{Name: strconv.Itoa(i)})
	}
	if names.Find(odd, "299") != 303 || names.Find(api.Prog{}, "") != -1 {
		t.Error("P8.1")
	}
}

// What has no imports stays as it is.
func TestGood(t *testing.T) {
	for _, s := range []string{
		h + "main h;", h + "main h; fallback h;", k + h + "main h;", more + f + rest,
		"contract k() end contract j() end " + h + "main h;",
		"contract k(h: int; k: bool) assume k; ghost g: bool = h = 1; guarantee g -> k; end " + h + "main h;",
		f + "contract assume c > 0 and b; ghost g: int = a + d; ghost e: bool = g > a; mode m require e ensure not e or g = d; guarantee e; end var d: int; let c = d; d = pre c; tel main f;",
		f + "contract ghost f: int = a; mode f require b ensure b; mode f require f = a ensure b; mode a require b ensure b; mode g require b ensure b; ghost g: bool = b; ghost k: bool = g; end " + rest,
		h + "node f(c: int) returns (a: int) var x: int; y: int; let y = h(h(x)); a = h(y) + h(h(a)) - y; x = h(1); tel main f;",
		"node none() returns (o: int) let o = 1; tel node both(a: int; b: int) returns (o: int) let o = a + none(); tel node f() returns (o: int) let o = both(none(), both(o, none())); tel main f;",
		h + "node g(a: int) returns (c: int) contract ghost z: int = 1; end var b: int; let c = b; b = 7; tel main g; fallback h;",
		h + "node g(a: int) returns (c: int) let c = 7; tel main h; fallback g;",
	} {
		gives(t, s, s)
	}
}

func TestImports(t *testing.T) {
	for _, c := range [][3]string{
		{"", "import two(a, c); import two(c, a);", "assume a < c; assume c < a;"},
		{"", "ghost g: int = a; import k(g); guarantee k_g > g;", "ghost g: int = a; ghost k_g: int = g + 1; mode k_m require 0 < k_g ensure g < k_g; guarantee g < k_g;"},
		{"", "assume b; import two(a + c, a - c); assume not b;", "assume b; assume a + c < a - c; assume not b;"},
		{"", "import two(1, 2); import two(3, if b then a else c);", "assume 1 < 2; assume 3 < (if b then a else c);"},
		// All is replaced at once: what an argument is named is no matter.
		{"contract i(a: int; c: int) ghost b: int = a - c; assume b > c; end ", "import i(c, a);", "ghost i_b: int = c - a; assume a < i_b;"},
		{"contract i(a: int) ghost c: int = a; ghost e: int = c + a; end ", "import i(c);", "ghost i_c: int = c; ghost i_e: int = i_c + c;"},
		{"contract i(a: int) ghost i_a: int = a; assume i_a > a; end ", "import i(c);", "ghost i_i_a: int = c; assume c < i_i_a;"},
		// A mode's name is no stream's, and no ghost's.
		{"contract i(x: bool) mode x require x ensure x; ghost m: bool = x; mode m require m ensure x; guarantee m; guarantee x; end ", "import i(b);", "mode i_x require b ensure b; ghost i_m: bool = b; mode i_m require i_m ensure b; guarantee i_m; guarantee b;"},
		{"contract i(y: bool) mode y require y ensure y; assume y; end ", "import i(b); import i(not b);", "mode i_y require b ensure b; assume b; mode i_y require not b ensure not b; assume not b;"},
		// What a contract imports is imported with it, by both names.
		{"contract j(y: int) import k(y * 2); guarantee k_g > y; end contract i(z: int) import j(z + 1); import k(z); assume j_k_g = k_g; end ", "import i(a); assume i_j_k_g > i_k_g;", "ghost i_j_k_g: int = (a + 1) * 2 + 1; mode i_j_k_m require 0 < i_j_k_g ensure (a + 1) * 2 < i_j_k_g; guarantee a + 1 < i_j_k_g; ghost i_k_g: int = a + 1; mode i_k_m require 0 < i_k_g ensure a < i_k_g; assume i_j_k_g = i_k_g; assume i_k_g < i_j_k_g;"},
		{"contract e() end contract i() import e(); import e(); end ", "import e(); import i(); import e();", ""},
		{"contract e() ghost s: bool = true; assume s; end ", "import e();", "ghost e_s: bool = true; assume e_s;"},
		// Inputs of other types are no matter here.
		{"", "import two(b, true);", "assume b < true;"},
		{"contract i(x: bool; y: bool; z: bool) assume if x then y else once z; guarantee within 3 x since y; end ", "import i(a = 1, b, pre b);", "assume if a = 1 then b else once pre b; guarantee within 3 (a = 1) since b;"},
	} {
		ahead := more + c[0]
		p, fault := names.Resolve(read(t, ahead+"main h;"))
		if fault != (api.Fault{}) {
			t.Fatalf("P8.2: %q: %v", ahead, fault)
		}
		units := strings.TrimSuffix(list.Write(p), "main h ;")
		gives(t, ahead+f+"contract "+c[1]+" end "+rest, units+f+"contract "+c[2]+" end "+rest)
	}
	gives(t, k+"contract j(y: int) import k(y * 2); guarantee k_g > y; end "+h+"main h;", kept+"contract j(y: int) ghost k_g: int = y * 2 + 1; mode k_m require 0 < k_g ensure y * 2 < k_g; guarantee y < k_g; end "+h+"main h;")
}

// Each fault of the first two kinds is that of the unit's name, or of its streams.
func TestTwice(t *testing.T) {
	for s, at := range map[string]int{
		h + h + "main h;": 1, k + k + "main k;": 1, k + "node k() returns (a: int) let a = 1; tel main k;": 1, h + "contract h() end main h;": 1, more + f + rest[:len("let c = a; tel ")] + h + "main f;": 4,
		"contract k(a: int; a: int) end main f;":                                                      0,
		"contract k(a: int; b: int; a: bool) end main f;":                                             0,
		more + "contract i(a: bool; b: int; c: int; b: int) end main f;":                              3,
		"node f(a: int; b: bool; b: bool) returns (c: int) " + rest:                                   0,
		"node f(a: int) returns (a: int) " + rest:                                                     0,
		"node f(a: int; c: bool) returns (c: int) " + rest:                                            0,
		"node f(a: int) returns (c: int) var a: int; let c = 1; a = 1; tel main f;":                   0,
		"node f(a: int) returns (c: int) var b: int; c: int; let c = 1; b = 1; tel main f;":           0,
		"node f() returns (c: int) var b: int; d: int; b: bool; let c = 1; b = 1; d = 1; tel main f;": 0,
		// They are told ahead of all others of a unit, and of those behind it.
		h + "contract h(a: int) assume z; end main q;":                        1,
		h + "node h(a: int) returns (c: int) let tel main h;":                 1,
		"contract k(a: int; a: int) assume f(z); end main f;":                 0,
		"node f(c: int) returns (c: int) let c = z; tel " + k + k + "main f;": 0,
		"contract k(a: int; a: int) end contract j() assume z; end main f;":   0,
	} {
		fails(t, s, api.ErrTwice, at)
	}
	fails(t, "contract k() assume z; end contract k() end main f;", api.ErrName, 0)
	fails(t, h+"contract k() assume h(1); end contract k() end main f;", api.ErrCall, 1)
}

// items are faults of items: in node f, behind the units that stand ahead.
var items = map[string]api.Errno{
	"assume z;": api.ErrName, "guarantee z;": api.ErrName, "ghost g: int = z;": api.ErrName, "mode m require z ensure b;": api.ErrName, "mode m require b ensure z;": api.ErrName, "import k(z);": api.ErrName, "import two(a, z);": api.ErrName, "import two(z, a);": api.ErrName,
	"assume h(a);": api.ErrCall, "guarantee h(a);": api.ErrCall, "ghost g: int = h(a);": api.ErrCall, "mode m require h(a) ensure b;": api.ErrCall, "mode m require b ensure h(a);": api.ErrCall, "import k(h(a));": api.ErrCall, "import two(a, h(a));": api.ErrCall, "import two(h(a), a);": api.ErrCall, "assume q();": api.ErrCall, "assume k(a);": api.ErrCall, "assume b and not (c > - h(a));": api.ErrCall,
	// Names are those of streams, and of ghosts ahead.
	"assume k;": api.ErrName, "assume f;": api.ErrName, "assume x;": api.ErrName, "assume g; ghost g: bool = b;": api.ErrName, "ghost g: int = g;": api.ErrName, "ghost g: int = pre g;": api.ErrName, "mode m require m ensure m;": api.ErrName, "mode m require b ensure b; assume m;": api.ErrName, "assume k_g > 0; import k(a);": api.ErrName, "import k(k_g);": api.ErrName, "import k(a); assume g > 0;": api.ErrName, "import k(a); assume k_m;": api.ErrName, "import k(a); assume k_x > 0;": api.ErrName, "import k(a); assume x > 0;": api.ErrName, "import k(a); ghost h: int = m;": api.ErrName,
	// Nodes are looked at in order, operands ahead.
	"assume z + h(a) > 0;": api.ErrName, "assume h(a) + z > 0;": api.ErrCall, "assume h(z) > 0;": api.ErrName, "assume z > h(a);": api.ErrCall, "assume z < h(a);": api.ErrName, "assume h(a, z, h(a));": api.ErrName, "assume h(a, h(a), z);": api.ErrCall, "assume if h(a) then z else b;": api.ErrCall, "assume if b then z else h(a);": api.ErrName,
	"mode m require z ensure h(a);": api.ErrName, "mode m require h(a) ensure z;": api.ErrCall, "import two(z, h(a));": api.ErrName, "import two(h(a), z);": api.ErrCall,
	// Items are looked at one by one.
	"assume z; assume h(a);": api.ErrName, "assume h(a); assume z;": api.ErrCall, "import q(); assume h(a);": api.ErrName, "import k(); assume z;": api.ErrCall, "ghost a: int = 1; assume z;": api.ErrTwice, "assume z; ghost a: int = 1;": api.ErrName, "assume b; assume b; assume h(b);": api.ErrCall,
	// Of a ghost.
	"ghost a: int = 1;": api.ErrTwice, "ghost b: int = 1;": api.ErrTwice, "ghost c: int = 1;": api.ErrTwice, "ghost d: int = 1;": api.ErrTwice, "ghost e: int = 1;": api.ErrTwice, "ghost g: int = 1; ghost g: int = 1;": api.ErrTwice, "ghost g: int = 1; assume b; ghost h: bool = b; ghost g: int = 1;": api.ErrTwice, "ghost a: int = z;": api.ErrName, "ghost a: int = h(a);": api.ErrCall, "ghost g: int = 1; ghost g: int = z;": api.ErrName,
	// Of an import: its arguments, its name, how many they are.
	"import q();": api.ErrName, "import q(a);": api.ErrName, "import h(a);": api.ErrName, "import h();": api.ErrName, "import f();": api.ErrName, "import behind();": api.ErrName, "import k();": api.ErrCall, "import k(a, a);": api.ErrCall, "import two(a);": api.ErrCall, "import two(a, a, a);": api.ErrCall, "import q(h(a));": api.ErrCall, "import k(z, z);": api.ErrName, "import k(h(a), a);": api.ErrCall, "import two(z);": api.ErrName,
	// What is imported is named twice.
	"import k(a); import k(a);": api.ErrTwice, "ghost k_g: int = 1; import k(a);": api.ErrTwice, "import k(a); ghost k_g: int = 1;": api.ErrTwice, "import k(a); import two(a, a); import k(c); assume z;": api.ErrTwice, "import k(a); import k(z);": api.ErrName, "import k(a); import k();": api.ErrCall,
}

func TestItems(t *testing.T) {
	const behind = "var d: int; e: bool; let c = a; d = a; e = b; tel contract behind() end main f;"
	gives(t, more+f+behind, strings.Replace(more+f+behind, k, kept, 1))
	for s, code := range items {
		fails(t, more+f+"contract "+s+" end "+behind, code, 3)
		// Ahead of all faults of equations, and of units behind.
		fails(t, more+f+"contract "+s+" end var d: int; e: bool; let z = z; tel "+h+"main q;", code, 3)
	}
	// In a contract they are the same; its streams are its inputs.
	for s, code := range items {
		fails(t, more+"contract f(a: int; b: bool; c: int; d: int; e: bool) "+s+" end contract behind() end main h;", code, 3)
	}
	const none = "contract i(a: int) ghost c: int = a; ghost d: int = c; ghost h: int = d; ghost i: int = h; end main h;"
	gives(t, more+none, kept+two+h+none)
	// A stream that has the name of what is imported.
	for _, s := range []string{"node i(k_g: int) returns (c: int) contract import k(1); end let c = 1; tel ", "node i() returns (k_g: int) contract import k(1); end let k_g = 1; tel ", "node i() returns (c: int) contract import k(1); end var k_g: int; let c = 1; k_g = 1; tel ", "contract i(k_g: int) import k(1); end "} {
		fails(t, more+s+"main h;", api.ErrTwice, 3)
	}
	for _, s := range []string{"node i(k_m: int) returns (c: int) contract import k(k_m); end let c = 1; tel ", "contract i(g: int; x: int; m: int) import k(g + x + m); end "} {
		if _, f := names.Resolve(read(t, more+s+"main h;")); f != (api.Fault{}) {
			t.Errorf("P8.2: %q: %v", s, f)
		}
	}
}

func TestEquations(t *testing.T) {
	const with = f + "contract ghost g: int = a; mode m require b ensure b; import k(a); end var d: int; e: bool; let "
	const good = "c = a; d = c + pre d; e = not e and b; "
	if _, f := names.Resolve(read(t, more+with+good+"tel main f;")); f != (api.Fault{}) {
		t.Fatalf("P8.2: %v", f)
	}
	for s, code := range map[string]api.Errno{
		// Each of Out and Vars is told, once; nothing else is.
		"": api.ErrName, "c = a;": api.ErrName, "d = a; e = b;": api.ErrName, "c = a; d = a;": api.ErrName, "c = a; e = b;": api.ErrName,
		good + "a = 1;": api.ErrName, good + "b = 1;": api.ErrName, good + "z = 1;": api.ErrName, good + "g = 1;": api.ErrName, good + "k_g = 1;": api.ErrName, good + "m = 1;": api.ErrName, good + "f = 1;": api.ErrName, good + "h = 1;": api.ErrName, "a = 1; " + good: api.ErrName, "z = 1; " + good: api.ErrName,
		good + "c = a;": api.ErrTwice, good + "d = a;": api.ErrTwice, good + "e = b;": api.ErrTwice, "c = a; c = a; d = a;": api.ErrTwice,
		// What stands in them.
		"c = z; ": api.ErrName, "c = f;": api.ErrName, "c = x;": api.ErrName, "c = m;": api.ErrName, "c = k_m;": api.ErrName, "c = k_x;": api.ErrName, "c = h;": api.ErrName, "c = k;": api.ErrName,
		"c = g;": api.ErrGhost, "c = k_g;": api.ErrGhost, "c = a + pre g;": api.ErrGhost, "c = 0 -> k_g;": api.ErrGhost,
		"c = q();": api.ErrCall, "c = k(a);": api.ErrCall, "c = two(a, a);": api.ErrCall, "c = f(a, b);": api.ErrCall, "c = behind(a);": api.ErrCall, "c = h();": api.ErrCall, "c = h(a, a);": api.ErrCall, "c = h(h(a, a));": api.ErrCall, "c = h(h());": api.ErrCall, "c = a(a);": api.ErrCall, "c = g(a);": api.ErrCall,
		// In their order.
		"c = a; d = g; e = z;": api.ErrGhost, "c = a; d = z; e = g;": api.ErrName, "c = a; d = h(); e = g;": api.ErrCall,
		"c = z + g;": api.ErrName, "c = g + z;": api.ErrGhost, "c = g + h();": api.ErrGhost, "c = h() + g;": api.ErrCall, "c = z + h();": api.ErrName, "c = h() + z;": api.ErrCall, "c = q(g);": api.ErrGhost, "c = q(z);": api.ErrName, "c = h(a, q(), g);": api.ErrCall, "c = h(a, g, q());": api.ErrGhost, "c = if z > g then a else a;": api.ErrGhost,
		"z = g;": api.ErrName, "a = g;": api.ErrName, "z = h();": api.ErrName, "c = a; c = g;": api.ErrTwice, "c = a; c = h();": api.ErrTwice, "c = a; c = z;": api.ErrTwice, "z = 1; z = 1;": api.ErrName, "c = g; c = 1;": api.ErrGhost, "c = h(); c = 1; z = 1;": api.ErrCall, "c = 1; c = 1; z = 1;": api.ErrTwice, "c = 1; z = 1; c = 1;": api.ErrName,
	} {
		fails(t, more+with+s+" tel node behind(a: int) returns (c: int) let c = a; tel main f;", code, 3)
		fails(t, more+with+s+" tel "+h+"main q; fallback q;", code, 3)
	}
	// Ghosts are those of the unit itself; so are streams.
	fails(t, "node h(a: int) returns (c: int) contract ghost g: int = a; end var d: int; let c = a; d = 1; tel node i() returns (c: int) let c = g; tel main h;", api.ErrName, 1)
	fails(t, "node h(a: int) returns (c: int) contract ghost g: int = a; end var d: int; let c = a; d = 1; tel node i() returns (c: int) let c = d; tel main h;", api.ErrName, 1)
	fails(t, "node h(a: int) returns (c: int) contract ghost g: int = a; end var d: int; let c = a; d = 1; tel node i() returns (c: int) contract assume g > 0; end let c = 1; tel main h;", api.ErrName, 1)
	fails(t, h+"node i() returns (e: int) let c = 1; e = 1; tel main h;", api.ErrName, 1)
	fails(t, "node f() returns (c: int) let tel main f;", api.ErrName, 0)
	gives(t, "node f() returns (c: int) let c = c; tel main f;", "node f() returns (c: int) let c = c; tel main f;")
}

// Nodes are looked at in order, however they stand.
func TestOrderOfNodes(t *testing.T) {
	z, one := v("z")[0], call("q")[0]
	turned := api.Expr{z, one, {Op: api.OpSub, A: 1, B: 0, C: -1}}
	straight := api.Expr{z, one, {Op: api.OpSub, A: 0, B: 1, C: -1}}
	for i, c := range []struct {
		e    api.Expr
		want api.Errno
	}{{turned, api.ErrCall}, {straight, api.ErrName}} {
		item := api.Unit{Contract: true, Name: "k", Items: []api.Item{{Kind: api.Assume, E: c.e}}}
		node := api.Unit{Name: "f", Out: api.Param{Name: "c", Type: api.Int}, Eqs: []api.Equation{{Name: "c", E: c.e}}}
		for _, u := range []api.Unit{item, node} {
			if q, f := names.Resolve(api.Prog{Units: []api.Unit{u}, Main: "f"}); f != (api.Fault{Code: c.want}) || len(q.Units) != 0 {
				t.Errorf("P8.2: case %d: %v", i, f)
			}
		}
	}
}

func TestMainAndBack(t *testing.T) {
	const g = "node g(a: int; b: bool) returns (c: int) contract assume b; end var d: int; let c = d; d = 1; tel "
	const both = more + f + "let c = a; tel " + g
	for _, s := range []string{"main f;", "main g;", "main h;", "main f; fallback g;", "main g; fallback f;", "main g; fallback g;", "main h; fallback h;"} {
		gives(t, both+s, strings.Replace(both, k, kept, 1)+s)
	}
	for _, s := range []string{"main q;", "main k;", "main two;", "main a;", "main q; fallback q;", "main k; fallback f;", "main k; fallback k;", "main q; fallback h;"} {
		fails(t, both+s, api.ErrName, -1)
	}
	for _, s := range []string{"main f; fallback q;", "main f; fallback k;", "main f; fallback h;", "main h; fallback f;", "main h; fallback k;"} {
		fails(t, both+s, api.ErrCall, -1)
	}
	for head, code := range map[string]api.Errno{
		"(a: int; b: bool) returns (c: int)": api.OK, "(a: int; b: int) returns (c: int)": api.ErrCall, "(a: bool; b: bool) returns (c: int)": api.ErrCall, "(a: int; d: bool) returns (c: int)": api.ErrCall, "(d: int; b: bool) returns (c: int)": api.ErrCall, "(b: bool; a: int) returns (c: int)": api.ErrCall, "(a: int) returns (c: int)": api.ErrCall, "() returns (c: int)": api.ErrCall, "(a: int; b: bool; d: int) returns (c: int)": api.ErrCall, "(a: int; b: bool) returns (c: bool)": api.ErrCall, "(a: int; b: bool) returns (d: int)": api.ErrCall,
	} {
		out := head[strings.Index(head, "returns (")+9:][:1]
		s := f + "let c = a; tel node g" + head + " let " + out + " = 1; tel "
		if code == api.OK {
			gives(t, s+"main f; fallback g;", s+"main f; fallback g;")
			continue
		}
		fails(t, s+"main f; fallback g;", code, -1)
		fails(t, s+"main g; fallback f;", code, -1)
		gives(t, s+"main f;", s+"main f;")
		gives(t, s+"main g; fallback g;", s+"main g; fallback g;")
	}
	fails(t, "main f;", api.ErrName, -1)
	fails(t, "main f; fallback f;", api.ErrName, -1)
	fails(t, k+"main k;", api.ErrName, -1)
}

// A program that can't be written is told ahead of all else.
func TestArg(t *testing.T) {
	for i, p := range []api.Prog{
		{}, {Main: "F"}, {Main: "f", Back: "if"}, {Main: "f", Units: make([]api.Unit, 1)}, {Main: "f", Units: []api.Unit{{Contract: true, Name: "k"}, {Contract: true, Name: "k"}, {Contract: true, Name: "K"}}},
		{Main: "f", Units: []api.Unit{{Contract: true, Name: "k", Items: []api.Item{{Kind: api.Assume, E: v("z")}, {Kind: api.Assume}}}}},
		{Main: "f", Units: []api.Unit{{Contract: true, Name: "k", Items: []api.Item{{Kind: api.Assume, E: v("z"), Args: []api.Expr{nil}}}}}},
		{Main: "f", Units: []api.Unit{{Name: "f", Out: api.Param{Name: "c", Type: api.Int}, Eqs: []api.Equation{{Name: "c", E: op(api.OpNot, v("if"))}}}}},
		{Main: "f", Units: slices.Repeat([]api.Unit{{Contract: true, Name: "k"}}, 201)},
		{Main: "f", Units: []api.Unit{{Name: "f", Out: api.Param{Name: "c", Type: 3}}}},
	} {
		if q, f := names.Resolve(p); f != (api.Fault{Code: api.ErrArg, At: -1}) || len(q.Units) != 0 || q.Main != "" || q.Back != "" {
			t.Errorf("P8.2: case %d: %v", i, f)
		}
	}
}
