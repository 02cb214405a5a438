package monitor_test

import (
	"fmt"
	"slices"
	"strings"
	"testing"
	"time"

	"bailment/api"
	"bailment/flat"
	"bailment/monitor"
	"bailment/prog"
	"bailment/show"
)

// short is the beginning of what a thing is as a text.
func short(x any) string {
	s := fmt.Sprint(x)
	return s[:min(len(s), 600)]
}

// spoil writes all over a list, with its spare room: nobody else may mind.
func spoil[T any](l []T, by T) {
	for i := range l[:cap(l)] {
		l[:cap(l)][i] = by
	}
}

func source(t *testing.T, s string) api.Prog {
	t.Helper()
	p, f := prog.Parse(s)
	if f.Code != api.OK {
		t.Fatalf("%.300q: %v", s, f)
	}
	return p
}

// line is a stream as a text, such as "c: int = a + 1"; an input's ends ahead of
// the sign.
func line(x api.Stream) string {
	s := x.Name + ": " + map[int]string{api.Bool: "bool", api.Int: "int"}[x.Type]
	if len(x.E) == 0 {
		return s
	}
	e := slices.Clone(x.E)
	for i, n := range e {
		// These are no names that show would write.
		for mark, word := range map[string]string{"#": "call_", "!": "check_"} {
			if own, is := strings.CutPrefix(n.Name, mark); is {
				e[i].Name = word + strings.ReplaceAll(own, ".", "_")
			}
		}
	}
	return s + " = " + show.Show(e)
}

func lines(l []api.Stream) []string {
	var out []string
	for _, x := range l {
		out = append(out, line(x))
	}
	return out
}

// makes tells which streams a contract is, behind those of its node, and which
// checks: twice, since what is answered is nobody else's memory.
func makes(t *testing.T, what string, p api.Prog, node string, want []string, checks []monitor.Check) []api.Stream {
	t.Helper()
	before := fmt.Sprint(p)
	own, f := flat.Make(p, node)
	if f != api.OK {
		t.Fatalf("P12.2: %s: %d", what, f)
	}
	want = append(lines(own), want...)
	for range 2 {
		l, k, f := monitor.Make(p, node)
		if got := lines(l); f != api.OK || !slices.Equal(got, want) || !slices.Equal(k, checks) {
			t.Fatalf("P19.1: %s: %q, %v, %d, not %q, %v", what, got, k, f, want, checks)
		}
		for i, x := range l {
			if fmt.Sprint(x) != fmt.Sprint(api.Stream{Name: x.Name, Type: x.Type, E: inOrder(x.E)}) {
				t.Fatalf("P19.1: %s: %v is not in order", what, x)
			}
			if line(x) != want[i] {
				t.Fatalf("R5: %s: %s has its memory from another one", what, want[i])
			}
			spoil(x.E, api.Node{Op: -9})
		}
		spoil(l, api.Stream{Name: "spoilt"})
		spoil(k, monitor.Check{Kind: -9})
	}
	if fmt.Sprint(p) != before {
		t.Fatalf("R5: %s: %s is changed", what, short(before))
	}
	l, _, _ := monitor.Make(p, node)
	return l
}

// inOrder is an expression whose nodes stand each directly behind its operands.
func inOrder(e api.Expr) api.Expr {
	var out api.Expr
	var lay func(i int) int
	lay = func(i int) int {
		n := e[i]
		for _, k := range []*int{&n.A, &n.B, &n.C} {
			if *k >= 0 {
				*k = lay(*k)
			}
		}
		out = append(out, n)
		return len(out) - 1
	}
	if len(e) > 0 {
		lay(len(e) - 1)
	}
	return out
}

func makesNot(t *testing.T, what string, p api.Prog, node string, want api.Errno) {
	t.Helper()
	for range 2 {
		if l, k, f := monitor.Make(p, node); f != want || l != nil || k != nil {
			t.Errorf("P19.1: %s, %q: %s, %v, %d, not %d", what, node, short(l), k, f, want)
		}
	}
}

func assume(holds int) monitor.Check {
	return monitor.Check{Kind: api.Assume, Holds: holds, Active: -1}
}

func guarantee(holds int) monitor.Check {
	return monitor.Check{Kind: api.Guarantee, Holds: holds, Active: -1}
}

func mode(name string, holds, active int) monitor.Check {
	return monitor.Check{Kind: api.Mode, Name: name, Holds: holds, Active: active}
}

func TestMake(t *testing.T) {
	one := func(items string) api.Prog {
		return source(t, "node f(a: int; b: bool) returns (c: int) contract "+items+" end let c = a; tel main f;")
	}
	makes(t, "no contract", source(t, "node f(a: int) returns (c: int) let c = a; tel main f;"), "f", nil, nil)
	makes(t, "no items", one(""), "f", nil, nil)
	makes(t, "the example", one("guarantee c > 0;"), "f", []string{"!1: bool = 0 < c"}, []monitor.Check{guarantee(3)})
	makes(t, "assume", one("assume b;"), "f", []string{"!1: bool = b"}, []monitor.Check{assume(3)})
	makes(t, "ghost", one("ghost g: int = 0 -> pre c;"), "f", []string{"g: int = 0 -> pre c"}, nil)
	makes(t, "ghosts", one("ghost g: int = a + 1; ghost h: bool = g > 2;"), "f", []string{"g: int = a + 1", "h: bool = 2 < g"}, nil)
	makes(t, "mode", one("mode m require b ensure c = a;"), "f", []string{"!1.r: bool = b", "!1.e: bool = c = a", "!1: bool = check_1_r => check_1_e"}, []monitor.Check{mode("m", 5, 3)})
	// Ghosts are not counted, and stand where they are.
	makes(t, "all", one("ghost g: int = a + 1; assume g > 1; ghost h: bool = b; mode m require h ensure true; mode m require not h ensure g = 2; ghost i: int = g; guarantee i = a; guarantee false;"), "f",
		[]string{"g: int = a + 1", "!1: bool = 1 < g", "h: bool = b", "!2.r: bool = h", "!2.e: bool = true", "!2: bool = check_2_r => check_2_e", "!3.r: bool = not h", "!3.e: bool = g = 2", "!3: bool = check_3_r => check_3_e", "i: int = g", "!4: bool = i = a", "!5: bool = false"},
		[]monitor.Check{assume(4), mode("m", 8, 6), mode("m", 11, 9), guarantee(13), guarantee(14)})
	makes(t, "the past", one("assume once b since hist (a > 1); guarantee true -> pre b; mode m require within 3 b ensure prev b;"), "f",
		[]string{"!1: bool = once b since hist ( 1 < a )", "!2: bool = true -> pre b", "!3.r: bool = within 3 b", "!3.e: bool = prev b", "!3: bool = check_3_r => check_3_e"}, []monitor.Check{assume(3), guarantee(4), mode("m", 7, 5)})
	// Streams of what is called stand ahead of the contract's.
	p := source(t, "node g(x: int) returns (y: int) contract guarantee y > x; end let y = x + 1; tel "+
		"node f(a: int) returns (c: int) contract guarantee c > v; end var v: int; let v = g(a); c = g(v) + g(1); tel "+
		"node h() returns (b: bool) let b = true; tel main h;")
	makes(t, "calls", p, "f", []string{"!1: bool = v < c"}, []monitor.Check{guarantee(9)})
	makes(t, "what is called", p, "g", []string{"!1: bool = x < y"}, []monitor.Check{guarantee(2)})
	makes(t, "main", p, "h", nil, nil)
}

// What is imported stands in its place, and is counted there.
func TestImports(t *testing.T) {
	p := source(t, "contract j(n: int) ghost p: int = 0 -> pre n; guarantee n >= p; end "+
		"contract k(x: int; y: bool) ghost g: bool = once (x > 5); assume g or y; import j(x + 1); mode m require y ensure j_p < x; end "+
		"node f(a: int; b: bool) returns (c: int) contract assume a > 0; import k(c, not b); ghost h: int = k_j_p; import j(h); end let c = a; tel main f;")
	makes(t, "imports", p, "f",
		[]string{"!1: bool = 0 < a", "k_g: bool = once ( 5 < c )", "!2: bool = k_g or not b", "k_j_p: int = 0 -> pre ( c + 1 )", "!3: bool = k_j_p <= c + 1", "!4.r: bool = not b", "!4.e: bool = k_j_p < c", "!4: bool = check_4_r => check_4_e", "h: int = k_j_p", "j_p: int = 0 -> pre h", "!5: bool = j_p <= h"},
		[]monitor.Check{assume(3), assume(5), guarantee(7), mode("k_m", 10, 8), guarantee(13)})
	makesNot(t, "a contract", p, "k", api.ErrName)
	makesNot(t, "a contract", p, "j", api.ErrName)
}

// Nodes whose expressions are not in order are, once they are made.
func TestOrder(t *testing.T) {
	p := source(t, "node f(a: int; b: bool) returns (c: int) contract ghost g: bool = a < 1; guarantee if b then g else not b; mode m require b and g ensure a = c; end let c = a + 1; tel main f;")
	want, k, f := monitor.Make(p, "f")
	if f != api.OK {
		t.Fatal(f)
	}
	for i := range p.Units[0].Items {
		x := &p.Units[0].Items[i]
		x.E, x.F = turned(x.E), turned(x.F)
	}
	makes(t, "turned", p, "f", lines(want)[3:], k)
}

// turned is an expression whose operands stand ahead of it in another order:
// those without operands first, and of these the last one first.
func turned(e api.Expr) api.Expr {
	var out api.Expr
	to := map[int]int{-1: -1}
	put := func(i int) {
		n := e[i]
		n.A, n.B, n.C = to[n.A], to[n.B], to[n.C]
		to[i] = len(out)
		out = append(out, n)
	}
	for i := len(e) - 1; i >= 0; i-- {
		if e[i].A < 0 {
			put(i)
		}
	}
	for i, n := range e {
		if n.A >= 0 {
			put(i)
		}
	}
	return out
}

// One fault after the other, in the order in which they are told, of whichever
// unit: the first one that there is goes ahead of all behind it.
func TestFaults(t *testing.T) {
	const sound = "node s(a: int) returns (c: int) contract guarantee c = a; end let c = a; tel "
	faults := []struct {
		unit  string
		fault api.Errno
	}{
		{"node q(a: int) returns (a: int) let a = 1; tel ", api.ErrTwice},
		{"node q(a: int) returns (c: int) contract assume a; end let c = a; tel ", api.ErrType},
		{"node q(a: int) returns (c: int) contract guarantee pre c > 1; end let c = a; tel ", api.ErrInit},
		{"node q(a: int) returns (c: int) contract assume true; end let c = c + a; tel ", api.ErrCycle},
	}
	for i, x := range faults {
		for _, y := range faults[i:] {
			other := strings.Replace(y.unit, "node q", "node r", 1)
			for _, s := range []string{sound + x.unit + other, sound + other + x.unit, other + sound + x.unit, x.unit + other + sound} {
				for _, node := range []string{"s", "q", "z", ""} {
					makesNot(t, s, source(t, s+"main s;"), node, x.fault)
				}
			}
		}
	}
	for items, want := range map[string]api.Errno{
		"assume z;": api.ErrName, "assume s(a);": api.ErrCall, "ghost a: int = 1;": api.ErrTwice, "ghost g: int = g;": api.ErrName, "guarantee g; ghost g: bool = true;": api.ErrName, "import z();": api.ErrName, "import k();": api.ErrCall, "import k(1); import k(2);": api.ErrTwice,
		"assume 1;": api.ErrType, "guarantee c;": api.ErrType, "ghost g: int = true;": api.ErrType, "ghost g: bool = 1;": api.ErrType, "mode m require 1 ensure true;": api.ErrType, "mode m require true ensure 1;": api.ErrType, "import k(true);": api.ErrType,
		"assume pre true;": api.ErrInit, "guarantee true -> pre pre true;": api.ErrInit, "ghost g: int = pre a;": api.ErrInit, "mode m require true ensure pre true;": api.ErrInit, "import k(pre a);": api.ErrInit,
	} {
		p := source(t, "contract k(n: int) ghost p: int = n; guarantee p > 0; end "+sound+"node f(a: int) returns (c: int) contract guarantee true; "+items+" end let c = s(a); tel main s;")
		for _, node := range []string{"f", "s", "z", "k"} {
			makesNot(t, items, p, node, want)
		}
	}
	p := source(t, sound+"contract k() guarantee true; end main s;")
	for _, node := range []string{"", "k", "S", "s ", "main", "#1", "c"} {
		makesNot(t, "no node", p, node, api.ErrName)
	}
	for _, p := range []api.Prog{{}, {Main: "F"}, {Main: "f", Units: []api.Unit{{}}}, {Main: "f", Units: []api.Unit{{Name: "f", Out: api.Param{Name: "c", Type: 9}}}}} {
		makesNot(t, "no program", p, "f", api.ErrArg)
	}
	makesNot(t, "no units", api.Prog{Main: "f"}, "f", api.ErrName)
	makesNot(t, "no main", source(t, sound+"main t;"), "s", api.ErrName)
	makesNot(t, "no fallback", source(t, sound+"main s; fallback t;"), "s", api.ErrCall)
}

// several are texts that stand behind each other, with numbers in them.
func several(n int, text string) string {
	var b strings.Builder
	for i := range n {
		b.WriteString(strings.ReplaceAll(text, "%", fmt.Sprint(i)))
	}
	return b.String()
}

// sum is one of n parts that is not deep.
func sum(n int, part string) string {
	if n == 1 {
		return part
	}
	return "(" + sum(n/2, part) + " + " + sum(n-n/2, part) + ")"
}

// As many streams as there may be, with those of the contract.
func TestMany(t *testing.T) {
	began := time.Now()
	// Each call of f is 100 streams, and g itself two.
	of := func(calls, vars int, items string) api.Prog {
		return source(t, "node f(x: int) returns (c: int) var "+several(98, "v%: int; ")+"let c = x; "+several(98, "v% = x; ")+"tel "+
			"node g(x: int) returns (c: int) contract "+items+" end var "+several(vars, "w%: int; ")+"let c = "+sum(calls, "f(x)")+"; "+several(vars, "w% = x; ")+"tel main g;")
	}
	for _, c := range []struct {
		vars  int
		items string
		fault api.Errno
	}{
		{98, "", api.OK}, {99, "", api.ErrMany},
		{97, "guarantee true;", api.OK}, {98, "guarantee true;", api.ErrMany}, {97, "assume true;", api.OK}, {98, "assume true;", api.ErrMany},
		{97, "ghost h: int = 1;", api.OK}, {98, "ghost h: int = 1;", api.ErrMany},
		{95, "mode m require true ensure true;", api.OK}, {96, "mode m require true ensure true;", api.ErrMany}, {97, "mode m require true ensure true;", api.ErrMany}, {98, "mode m require true ensure true;", api.ErrMany},
		{94, "mode m require true ensure true; assume true;", api.OK}, {95, "assume true; mode m require true ensure true;", api.ErrMany},
		{99, "mode m require true ensure true;", api.ErrMany},
	} {
		p := of(39, c.vars, c.items)
		if c.fault != api.OK {
			makesNot(t, c.items, p, "g", c.fault)
			continue
		}
		l, _, f := monitor.Make(p, "g")
		if f != api.OK || len(l) != 4000 {
			t.Errorf("P19.1: %s: %d streams, %d", c.items, len(l), f)
			continue
		}
		if rows, f := flat.Run(l, [][]int{{3}, {-4}}); f != api.OK || len(rows) != 2 || rows[1][1] != 39*-4 {
			t.Errorf("P19.3: %s: %d instants, %d", c.items, len(rows), f)
		}
	}
	// As many items as there may be, all of them modes.
	p := of(33, 98, several(200, "mode m% require x > % ensure c > %; "))
	l, k, f := monitor.Make(p, "g")
	if f != api.OK || len(l) != 3400+600 || len(k) != 200 || k[199] != mode("m199", 3999, 3997) || k[0] != mode("m0", 3402, 3400) {
		t.Fatalf("P19.1: %d streams, %d checks, %d", len(l), len(k), f)
	}
	rows, f := flat.Run(l, [][]int{{1}, {3}, {-7}, {150}})
	if f != api.OK || rows[1][k[2].Active] != 1 || rows[1][k[3].Active] != 0 || rows[1][k[2].Holds] != 1 {
		t.Errorf("P19.3: %d", f)
	}
	makesNot(t, "modes", of(33, 99, several(200, "mode m% require x > % ensure c > %; ")), "g", api.ErrMany)
	if took := time.Since(began); took > time.Minute {
		t.Errorf("%v", took)
	}
}
