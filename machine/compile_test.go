package machine_test

import (
	"fmt"
	"slices"
	"strings"
	"testing"
	"time"

	"bailment/api"
	"bailment/code"
	"bailment/flat"
	"bailment/machine"
	"bailment/norm"
	"bailment/past"
	"bailment/prog"
)

func source(t *testing.T, s string) api.Prog {
	t.Helper()
	p, f := prog.Parse(s)
	if f.Code != api.OK {
		t.Fatalf("%.300q: %v", s, f)
	}
	return p
}

func same(a, b code.Code) bool {
	return a.Regs == b.Regs && a.Slots == b.Slots && slices.Equal(a.Ins, b.Ins) && slices.Equal(a.Outs, b.Outs) && slices.Equal(a.Inputs, b.Inputs)
}

// compiles tells that a program's code is what the layers below make of it.
func compiles(t *testing.T, what string, p api.Prog, node string, told ...string) code.Code {
	t.Helper()
	l, f := flat.Make(p, node)
	var numbers []int
	for _, name := range told {
		numbers = append(numbers, slices.IndexFunc(l, func(s api.Stream) bool { return s.Name == name }))
	}
	free, f2 := past.Free(l)
	n, f3 := norm.Make(free)
	want, f4 := code.Make(n, numbers)
	if f != api.OK || f2 != api.OK || f3 != api.OK || f4 != api.OK {
		t.Fatalf("P18.3: %s: %d, %d, %d, %d", what, f, f2, f3, f4)
	}
	before, asked := fmt.Sprint(p), slices.Clone(told)
	for range 2 {
		c, f := machine.Compile(p, node, told)
		if f != api.OK || !same(c, want) {
			t.Fatalf("P18.3: %s: %s, %d, not %s", what, short(c), f, short(want))
		}
		spoil(c.Ins, code.Ins{Op: -9})
		spoil(c.Outs, -9)
		spoil(c.Inputs, -9)
	}
	if fmt.Sprint(p) != before || !slices.Equal(told, asked) {
		t.Fatalf("R5: %s: %s is changed", what, short(before))
	}
	return want
}

func compilesNot(t *testing.T, what string, p api.Prog, node string, told []string, want api.Errno) {
	t.Helper()
	for range 2 {
		c, f := machine.Compile(p, node, told)
		if f != want || !same(c, code.Code{}) || c.Ins != nil || c.Outs != nil || c.Inputs != nil {
			t.Errorf("P18.3: %s, %q, told %.100q: %s, %d, not %d", what, node, told, short(c), f, want)
		}
	}
}

// rows tells that a program's node is what is said of it, instant by instant, up to a fault.
func rows(t *testing.T, what string, p api.Prog, node string, told string, in, want [][]int, fault api.Errno) {
	t.Helper()
	m := starts(t, what, compiles(t, what, p, node, strings.Fields(told)...))
	for i, given := range in {
		l, f := m.Step(given)
		if i < len(want) && (f != api.OK || !slices.Equal(l, want[i])) || i == len(want) && (l != nil || f != fault) {
			t.Fatalf("P18.4: %s: at %d: %v, %d, not %v, %d", what, i, l, f, want, fault)
		}
	}
	if m.Steps() != len(want) || m.Fault() != fault {
		t.Fatalf("P18.4: %s: %d instants, %d, not %d, %d", what, m.Steps(), m.Fault(), len(want), fault)
	}
}

func TestCompile(t *testing.T) {
	p := source(t, "node sum(a: int) returns (c: int) let c = 0 -> pre c + a; tel "+
		"node count(b: bool) returns (c: int) var one: int; let one = if b then 1 else 0; c = sum(one) + (one -> 0); tel "+
		"node f(a: int; b: bool) returns (c: int) var x: bool; y: int; let x = once b and within 1 (a > 2); y = count(x) * 10; c = sum(a) - y; tel "+
		"node g() returns (b: bool) let b = true -> not pre b; tel "+
		"main sum;")
	rows(t, "the example", p, "sum", "c", [][]int{{5}, {5}, {5}}, [][]int{{0}, {5}, {10}}, api.OK)
	rows(t, "nothing told", p, "sum", "", [][]int{{5}, {5}}, [][]int{{}, {}}, api.OK)
	rows(t, "told often", p, "sum", "c a c c", [][]int{{5}, {6}}, [][]int{{0, 5, 0, 0}, {6, 6, 6, 6}}, api.OK)
	rows(t, "no inputs", p, "g", "b", [][]int{nil, {}, nil}, [][]int{{1}, {0}, {1}}, api.OK)
	rows(t, "a call", p, "count", "c #1.c one #1.a", [][]int{{1}, {1}, {0}, {1}}, [][]int{{1, 0, 1, 1}, {1, 1, 1, 1}, {1, 1, 0, 0}, {2, 2, 1, 1}}, api.OK)
	in := [][]int{{1, 0}, {3, 0}, {2, 1}, {1, 1}, {5, 0}, {1, 0}, {1, 0}}
	rows(t, "calls", p, "f", "x c y", in, [][]int{{0, 0, 0}, {0, 3, 0}, {1, -5, 10}, {0, -4, 10}, {1, -9, 20}, {1, -18, 30}, {0, -17, 30}}, api.OK)
	rows(t, "calls in calls", p, "f", "#3.c #3.a #2.one a", in, [][]int{{0, 0, 0, 1}, {0, 0, 0, 3}, {1, 1, 1, 2}, {1, 0, 0, 1}, {2, 1, 1, 5}, {3, 1, 1, 1}, {3, 0, 0, 1}}, api.OK)
	rows(t, "a frame", p, "f", "c", [][]int{{1, 0}, {1, 2}, {1, 0}}, [][]int{{0}}, api.ErrFrame)
	rows(t, "over", p, "sum", "c", [][]int{{0}, {2147483647}, {0}, {1}, {-1}}, [][]int{{0}, {2147483647}, {2147483647}}, api.ErrOver)
	p = source(t, "contract k(n: int) ghost p: int = 0 -> pre n; assume p < 100; mode m require n > 0 ensure n > p; end "+
		"node half(a: int) returns (c: int) let c = 100 div a; tel "+
		"node f(a: int) returns (c: int) contract import k(a); guarantee c = a -> c > k_p; end let c = if a > 3 then half(a - 4) else a; tel main f; fallback f;")
	rows(t, "a contract is no matter", p, "f", "c", [][]int{{1}, {200}, {-5}}, [][]int{{1}, {0}, {-5}}, api.OK)
	rows(t, "a fault of what is not taken", p, "f", "a", [][]int{{1}, {4}, {1}}, [][]int{{1}}, api.ErrZero)
	for _, name := range []string{"k", "k_p", "p", "m", "n", "#1.b", "#2.c", "@1", "#1.", "", "C", "c ", "pre c"} {
		compilesNot(t, "told", p, "f", []string{name}, api.ErrName)
		compilesNot(t, "told", p, "f", []string{"c", name}, api.ErrName)
		compilesNot(t, "told", p, "f", []string{name, "c"}, api.ErrName)
	}
	for _, name := range []string{"", "k", "F", "g", "f ", "main", "#1", "c"} {
		compilesNot(t, "node", p, name, nil, api.ErrName)
		compilesNot(t, "node", p, name, []string{"c"}, api.ErrName)
	}
	// A memory is no stream that is told.
	p = source(t, "node f(b: bool) returns (c: bool) let c = once b and hist b; tel main f;")
	rows(t, "memories", p, "f", "c b", [][]int{{1}, {1}, {0}, {1}}, [][]int{{1, 1}, {1, 1}, {0, 0}, {0, 1}}, api.OK)
	for _, name := range []string{"@1", "@1.a", "@2", "@"} {
		compilesNot(t, "memories", p, "f", []string{name}, api.ErrName)
	}
}

// sum is one of n parts that is not deep.
func sum(n int, part string) string {
	if n == 1 {
		return part
	}
	return "(" + sum(n/2, part) + " + " + sum(n-n/2, part) + ")"
}

// several are texts that stand behind each other, with numbers in them.
func several(n int, text string) string {
	var b strings.Builder
	for i := range n {
		b.WriteString(strings.ReplaceAll(text, "%", fmt.Sprint(i)))
	}
	return b.String()
}

// One fault after the other, in the order in which they are told: the first one
// that there is goes ahead of all behind it.
func TestCompileFaults(t *testing.T) {
	const sound = "node s(a: int) returns (c: int) let c = a; tel "
	onces := "(" + sum(100, "(if once (x < 3) then 1 else 0)") + ")"
	faults := []struct {
		unit  string // which stands ahead of the one that is compiled
		fault api.Errno
	}{
		{"node q(a: int) returns (a: int) let a = 1; tel ", api.ErrTwice},
		{"node q(a: int) returns (c: int) let c = a < 1; tel ", api.ErrType},
		{"node q(a: int) returns (c: int) let c = pre a; tel ", api.ErrInit},
		{"node q(a: int) returns (c: int) let c = c + a; tel ", api.ErrCycle},
	}
	others := map[string]api.Errno{
		"node q(a: int) returns (c: int) let c = z; tel ": api.ErrName, "node q(a: int) returns (c: int) let c = q(a); tel ": api.ErrCall, "node q(a: int) returns (c: int) let c = s(a, a); tel ": api.ErrCall, "node q(a: int) returns (c: int) contract ghost g: int = a; end let c = g; tel ": api.ErrGhost, "node q(a: int) returns (c: int) let tel ": api.ErrName,
		"node q(a: int) returns (c: int) contract assume a; end let c = a; tel ": api.ErrType, "contract q(a: int) guarantee a + 1; end ": api.ErrType, "node q(a: bool) returns (c: int) let c = s(a); tel ": api.ErrType, "node q(a: int) returns (c: bool) contract mode m require c ensure a; end let c = a > 1; tel ": api.ErrType,
		"contract q(a: bool) assume pre a; end ": api.ErrInit, "node q(a: int) returns (c: int) let c = s(pre a); tel ": api.ErrInit, "contract q(a: bool) assume true -> pre pre a; end ": api.ErrInit, "node q(a: int) returns (c: int) let c = 0 -> s(pre a); tel ": api.ErrInit,
		"node q(a: int) returns (c: int) var d: int; let c = d; d = s(c); tel ": api.ErrCycle, "node q(a: int) returns (c: int) let c = a -> c; tel ": api.ErrCycle,
	}
	for unit, want := range others {
		faults = append(faults, struct {
			unit  string
			fault api.Errno
		}{unit, want})
	}
	for i, x := range faults {
		p := source(t, sound+x.unit+"main s;")
		for _, told := range [][]string{nil, {"c"}, {"z"}} {
			for _, node := range []string{"s", "q", "z", ""} {
				compilesNot(t, x.unit, p, node, told, x.fault)
			}
		}
		// Another unit has one that is told behind it, or ahead of it, wherever it stands.
		for k, y := range faults[:4] {
			if i < 4 {
				other := strings.Replace(y.unit, "node q", "node r", 1)
				for _, s := range []string{sound + x.unit + other, sound + other + x.unit, x.unit + other + sound} {
					compilesNot(t, s, source(t, s+"main s;"), "s", []string{"z"}, faults[min(i, k)].fault)
				}
			}
		}
	}
	// What is imported is looked at where it is put.
	for args, want := range map[string]api.Errno{"a, b": api.OK, "b, b": api.ErrType, "a, a": api.ErrType, "a + 1, b and a > 2": api.OK, "a, b and a": api.ErrType, "pre a, b": api.ErrInit, "0 -> pre a, b": api.OK, "a": api.ErrCall, "a, z": api.ErrName} {
		p := source(t, "contract k(n: int; m: bool) assume m or n > 1; end node f(a: int; b: bool) returns (c: int) contract import k("+args+"); end let c = a; tel main f;")
		if want != api.OK {
			compilesNot(t, args, p, "f", []string{"c"}, want)
			continue
		}
		rows(t, args, p, "f", "c", [][]int{{5, 0}}, [][]int{{5}}, api.OK)
	}
	// Then those of flat.Make, of told, of past.Free and of norm.Make.
	many := "node f(x: int) returns (c: int) var " + several(100, "v%: int; ") + "let c = 0; " + several(100, "v% = x; ") + "tel node g(x: int) returns (c: int) let c = " + sum(40, "f(x)") + "; tel main g;"
	past := "node f(x: int) returns (c: int) var " + several(21, "v%: int; ") + "let c = " + onces + "; " + several(21, "v% = "+onces+"; ") + "tel main f;"
	// A Within of two nodes becomes three: each part has six, and then seven.
	long := func(n int) string {
		return "node f(x: bool) returns (c: int) let c = " + sum(n, "(if within 2 x then 1 else 0)") + "; tel main f;"
	}
	for _, x := range []struct {
		source, node string
		fault        api.Errno // told ahead of a name that is none; OK: behind it
		behind       api.Errno
	}{{many, "g", api.ErrMany, api.ErrMany}, {many, "h", api.ErrName, api.ErrName}, {past, "f", api.ErrName, api.ErrMany}, {long(833), "f", api.ErrName, api.ErrArg}, {long(715), "f", api.ErrName, api.ErrArg}} {
		p := source(t, x.source)
		compilesNot(t, x.source[:60], p, x.node, []string{"c", "z"}, x.fault)
		compilesNot(t, x.source[:60], p, x.node, []string{"c", "x"}, x.behind)
		compilesNot(t, x.source[:60], p, x.node, nil, x.behind)
	}
	rows(t, "as long as may be", source(t, long(714)), "f", "c", [][]int{{1}, {0}, {0}, {0}, {1}}, [][]int{{714}, {714}, {714}, {0}, {714}}, api.OK)
	rows(t, "as many as may be", source(t, strings.Replace(many, sum(40, "f(x)"), sum(38, "f(x)"), 1)), "g", "c", [][]int{{1}}, [][]int{{0}}, api.OK)
	// And what cannot be written is the first fault of all.
	for _, p := range []api.Prog{{}, {Main: "F"}, {Main: "f", Units: []api.Unit{{}}}, {Main: "f", Units: []api.Unit{{Name: "f", Out: api.Param{Name: "c", Type: 9}}}}} {
		compilesNot(t, "no program", p, "f", []string{"z"}, api.ErrArg)
	}
	compilesNot(t, "no units", api.Prog{Main: "f"}, "f", nil, api.ErrName)
}

// A net of more operators than there may be is told by code.Make.
func TestCompileMany(t *testing.T) {
	began := time.Now()
	of := func(n int) api.Prog {
		return source(t, "node f(x: int) returns (c: int) var "+several(5, "v%: int; ")+"let c = x; "+several(5, "v% = "+sum(2400, "1")+"; ")+"tel node g(x: int) returns (c: int) let c = "+sum(n, "f(x)")+"; tel main g;")
	}
	// Each f has 23995 operators; g has n - 1, and its input one.
	compilesNot(t, "many", of(5), "g", []string{"c"}, api.ErrArg)
	compilesNot(t, "many", of(5), "g", []string{"z"}, api.ErrName)
	rows(t, "many", of(4), "g", "c #4.v4", [][]int{{7}, {-7}}, [][]int{{28, 2400}, {-28, 2400}}, api.OK)
	if took := time.Since(began); took > time.Minute {
		t.Errorf("%v", took)
	}
}
