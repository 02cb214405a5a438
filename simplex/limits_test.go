package simplex_test

import (
	"fmt"
	"runtime"
	"slices"
	"strings"
	"testing"
	"time"

	"bailment/api"
	"bailment/flat"
	"bailment/monitor"
	"bailment/norm"
	"bailment/past"
	"bailment/simplex"
)

// several are texts that stand behind each other, with numbers in them.
func several(n int, text string) string {
	var b strings.Builder
	for i := range n {
		b.WriteString(strings.ReplaceAll(text, "%", fmt.Sprint(i)))
	}
	return b.String()
}

// row is n parts with a sign between any two, that are not deep.
func row(n int, part, sign string) string {
	if n == 1 {
		return part
	}
	return "(" + row(n/2, part, sign) + sign + row(n-n/2, part, sign) + ")"
}

func sum(n int, part string) string { return row(n, part, " + ") }

// node is one whose faults are told by one layer alone: flat.Make, where it
// calls too much; past.Free, where there is too much of the past; norm.Make,
// where an expression becomes too long.
func node(name, items string, calls, onces, withins int) string {
	vars, equations := "", ""
	for i := 0; i < onces; i += 500 {
		vars += fmt.Sprintf("o%d: bool; ", i)
		equations += fmt.Sprintf("o%d = %s; ", i, row(min(500, onces-i), "once b", " or "))
	}
	long := sum(max(withins, 1), "(if within 2 b then 1 else 0)")
	return "node " + name + "(a: int) returns (c: int) contract " + items + " end var b: bool; x: int; y: int; " + vars + "let b = a > 5; c = a; x = " + sum(max(calls, 1), "h(a)") + "; y = " + long + "; " + equations + "tel "
}

// helper is a node of 100 streams.
var helper = "node h(x: int) returns (c: int) var " + several(98, "v%: int; ") + "let c = x; " + several(98, "v% = x; ") + "tel "

// The nodes that follow are what they are held to be.
func TestNodes(t *testing.T) {
	for _, c := range []struct {
		calls, onces, withins int
		made, free, nets      api.Errno
	}{{1, 0, 0, api.OK, api.OK, api.OK}, {40, 0, 0, api.ErrMany, 0, 0}, {1, 1960, 0, api.OK, api.ErrMany, 0}, {1, 0, 833, api.OK, api.OK, api.ErrArg}} {
		l, e := flat.Make(source(t, helper+node("f", "", c.calls, c.onces, c.withins)+"main f;"), "f")
		if e != c.made {
			t.Fatalf("P12.2: %v: %d", c, e)
		}
		if e == api.OK {
			l, e = past.Free(l)
			if e != c.free {
				t.Fatalf("P13.2: %v: %d", c, e)
			}
		}
		if e == api.OK {
			if _, e = norm.Make(l); e != c.nets {
				t.Fatalf("P14.2: %v: %d", c, e)
			}
		}
	}
}

// Programs have the faults of the nodes that run, in their order.
func TestFaults(t *testing.T) {
	sound := func(name string) string { return node(name, "", 1, 0, 0) }
	called := func(name string) string { return node(name, "", 40, 0, 0) }
	freed := func(name string) string { return node(name, "", 1, 1960, 0) }
	long := func(name string) string { return node(name, "", 1, 0, 833) }
	for i, c := range []struct {
		main, back func(name string) string
		want       api.Errno // OK: there is a result
		alone      api.Errno // without the fallback
	}{
		{sound, sound, api.OK, api.OK},
		{called, sound, api.ErrMany, api.ErrMany}, {freed, sound, api.ErrMany, api.ErrMany}, {long, sound, api.ErrArg, api.ErrArg},
		{sound, called, api.ErrMany, api.OK}, {sound, freed, api.ErrMany, api.OK}, {sound, long, api.ErrArg, api.OK},
		{long, called, api.ErrMany, api.ErrArg}, {long, freed, api.ErrArg, api.ErrArg}, {long, long, api.ErrArg, api.ErrArg},
		{called, long, api.ErrMany, api.ErrMany}, {freed, long, api.ErrMany, api.ErrMany},
	} {
		s := helper + c.main("f") + c.back("g")
		for back, want := range map[string]api.Errno{"fallback g;": c.want, "": c.alone} {
			p := source(t, s+"main f;"+back)
			if want != api.OK {
				execsNot(t, fmt.Sprint("case ", i, back), p, want)
				continue
			}
			execs(t, fmt.Sprint("case ", i, back), p, rows(1, 7, 3), goes(1, 7, 3))
		}
	}
	// Ahead of all of these are those of the whole program, of any unit.
	const z = "node s(a: int) returns (c: int) let c = a; tel "
	for unit, want := range map[string]api.Errno{"node q(a: int) returns (a: int) let a = 1; tel ": api.ErrTwice, "node q(a: int) returns (c: int) contract guarantee a; end let c = a; tel ": api.ErrType, "contract q(a: bool) assume pre a; end ": api.ErrInit, "node q(a: int) returns (c: int) let c = c + a; tel ": api.ErrCycle, "contract q() guarantee z; end ": api.ErrName, "node q() returns (c: int) contract ghost g: int = 1; end let c = g; tel ": api.ErrGhost, "node q() returns (c: int) let c = q(); tel ": api.ErrCall} {
		execsNot(t, unit, source(t, z+unit+"main s;"), want)
		execsNot(t, unit, source(t, z+unit+"main s; fallback s;"), want)
		execsNot(t, unit, source(t, z+unit+helper+called("f")+long("g")+"main f; fallback g;"), want)
		execsNot(t, unit, source(t, helper+long("f")+called("g")+unit+"main f; fallback g;"), want)
	}
	execsNot(t, "no main", source(t, z+"main q;"), api.ErrName)
	execsNot(t, "no main", source(t, z+"contract q() end main q;"), api.ErrName)
	execsNot(t, "no fallback", source(t, z+"main s; fallback q;"), api.ErrCall)
	for _, unit := range []string{"contract q(a: int) end ", "node q(a: int) returns (d: int) let d = a; tel ", "node q(a: int) returns (c: bool) let c = true; tel ", "node q(b: int) returns (c: int) let c = 1; tel ", "node q(a: bool) returns (c: int) let c = 1; tel ", "node q() returns (c: int) let c = 1; tel ", "node q(a: int; b: int) returns (c: int) let c = 1; tel "} {
		execsNot(t, unit, source(t, z+unit+"main s; fallback q;"), api.ErrCall)
		execs(t, unit, source(t, z+unit+"main s;"), rows(4), goes(4))
	}
	for _, p := range []api.Prog{{}, {Main: "F"}, {Main: "f", Back: "F"}, {Main: "f", Units: []api.Unit{{}}}, {Main: "f", Units: []api.Unit{{Name: "f", Out: api.Param{Name: "c", Type: 9}}}}} {
		execsNot(t, "no program", p, api.ErrArg)
	}
	execsNot(t, "no units", api.Prog{Main: "f"}, api.ErrName)
}

// A contract is counted with the primary, and none with the fallback.
func TestManyStreams(t *testing.T) {
	onces := several(100, "guarantee once b or true; ")
	// There are five streams, 100 of each call, and one of each 500 onces; two
	// more of each once, and of the Within; and three of each of the items.
	for _, c := range []struct {
		items, backs string
		calls, onces int
		want         api.Errno
	}{
		{"", "", 1, 1944, api.OK}, {"", "", 1, 1945, api.ErrMany}, {"", "", 39, 46, api.OK}, {"", "", 39, 47, api.ErrMany},
		{onces, "", 1, 1794, api.OK}, {onces, "", 1, 1795, api.ErrMany}, {"", onces, 1, 1944, api.OK}, {"", onces, 39, 46, api.OK},
		{onces, "", 36, 0, api.OK}, {onces, "", 37, 0, api.ErrMany},
	} {
		p := source(t, helper+node("f", c.items, c.calls, c.onces, 0)+node("g", c.backs, c.calls, c.onces, 0)+"main f; fallback g;")
		l, _, e := monitor.Make(p, "f")
		if e == api.OK {
			_, e = past.Free(l)
		}
		if e != c.want {
			t.Fatalf("P13.2: %d calls, %d onces, %d bytes of items: %d", c.calls, c.onces, len(c.items), e)
		}
		if c.want != api.OK {
			execsNot(t, "many", p, c.want)
			continue
		}
		execs(t, "many", p, rows(7, 3), goes(7, 3))
	}
}

// wide is a node of some hundred operators for each call of h, which fails
// where its input is 0, or as far from the beginning as is told.
func wide(name, items string, calls int) string {
	return "node " + name + "(a: int) returns (c: int) contract " + items + " end var n: int; v: int; let n = 0 -> pre n + 1; v = 60 div a; c = n * 1000 + " + sum(calls, "k(a)") + "; tel "
}

// Nets that have more operators than code may have are run, too.
func TestManyOperators(t *testing.T) {
	began := time.Now()
	// Each call of k has 4999 operators.
	k := "node k(x: int) returns (c: int) let c = x + " + sum(2499, "1") + "; tel "
	for i, calls := range [][2]int{{22, 1}, {1, 22}, {21, 23}} {
		s := k + wide("f", "assume a <> 7; guarantee c < 9000000; mode m require a > 90 ensure n < 3;", calls[0]) + wide("g", "guarantee false;", calls[1])
		main, back := source(t, s+"main f;"), source(t, s+"main f; fallback g;")
		l, _ := flat.Make(back, []string{"f", "g"}[slices.Index(calls[:], slices.Max(calls[:]))])
		free, _ := past.Free(l)
		if n, e := norm.Make(free); e != api.OK || len(n.Ops) <= 100000 || norm.Check(n) != api.ErrArg {
			t.Fatalf("P14.2: %d operators, %d", len(n.Ops), e)
		}
		for k, in := range [][][]int{slices.Repeat(rows(1, 2, 3, 4, 5, 6, 7, 8, 9, 10), 12), rows(7, 99, 1, 2, 91, 7, 3), rows(1, 2, 0, 4, 5), rows(3, 1<<26, 5, 0, 1), {{1}, {99}, {3}, {99}, {5}, {1 << 31}}} {
			p := []api.Prog{back, main}[(i*k)%2]
			want, e := said(t, p, in)
			if e != api.OK {
				t.Fatal(e)
			}
			execs(t, fmt.Sprint(calls), p, in, want)
		}
	}
	if took := time.Since(began); took > time.Minute {
		t.Errorf("%v", took)
	}
}

// A run that ends early does not go through the instants behind it.
func TestEndsEarly(t *testing.T) {
	began := time.Now()
	k := "node k(x: int) returns (c: int) let c = x + " + sum(2499, "1") + "; tel "
	p := source(t, k+wide("f", "guarantee a <> 9;", 22)+"main f;")
	in := slices.Repeat([][]int{{1}}, 1000000)
	in[1] = []int{0}
	execs(t, "by a fault", p, in, ends(falls(goes(22*2500), 1, api.ErrZero), api.ErrZero))
	in[1] = []int{9}
	execs(t, "by a check", p, in, ends(logs(falls(goes(22*2500), 1, api.ErrGhost), guarantee(0, 1)), api.ErrGhost))
	p = source(t, k+wide("f", "guarantee a <> 9;", 22)+"node g(a: int) returns (c: int) let c = a; tel main f; fallback g;")
	execs(t, "it falls back", p, in[:100000], logs(falls(goes(append([]int{22 * 2500, 9}, slices.Repeat([]int{1}, 99998)...)...), 1, api.ErrGhost), guarantee(0, 1)))
	if took := time.Since(began); took > time.Minute {
		t.Errorf("%v", took)
	}
}

// As long a run as inputs can tell, and a longer one.
func TestLong(t *testing.T) {
	began := time.Now()
	const s = "node b() returns (c: int) let c = 0 -> pre c - 1; tel node f() returns (c: int) contract guarantee c < 70000; assume once (c > 5) => c > 5; end let c = 0 -> pre c + 1; tel main f; fallback b;"
	counted := func(n, latch int) simplex.Result {
		r := goes()
		for i := range n {
			if i < latch {
				r.Outs = append(r.Outs, i)
			} else {
				r.Outs = append(r.Outs, -i)
			}
		}
		return logs(falls(r, latch, api.ErrGhost), guarantee(0, latch))
	}
	runs(t, s, strings.Repeat("\n", 100000), counted(100000, 70000))
	execs(t, "long", source(t, s), make([][]int, 500000), counted(500000, 70000))
	if took := time.Since(began); took > time.Minute {
		t.Errorf("%v", took)
	}
}

// State is of one size: what all streams are at all instants would take more
// than 400 megabytes.
func TestOneSize(t *testing.T) {
	s := "node f() returns (c: int) var " + several(190, "v%: int; ") + "let c = 0 -> pre c + 1; " + several(190, "v% = c + %; ") + "tel node g() returns (c: int) contract guarantee c <> 15000; end let c = " + sum(15, "f()") + "; tel main g; fallback g;"
	most := func() uint64 {
		var m runtime.MemStats
		runtime.ReadMemStats(&m)
		return m.HeapAlloc
	}
	runtime.GC()
	before, peak := most(), uint64(0)
	done, watched := make(chan bool), make(chan bool)
	go func() {
		defer close(watched)
		for {
			select {
			case <-done:
				return
			case <-time.After(5 * time.Millisecond):
				peak = max(peak, most())
			}
		}
	}()
	r, f := simplex.Run(s, strings.Repeat("\n", 20000))
	close(done)
	<-watched
	if f != (api.Fault{}) || len(r.Outs) != 20000 || r.Outs[19999] != 15*19999 || r.Latch != 1000 {
		t.Errorf("P24.2: %s, %v", short(r), f)
	}
	if peak > before+200<<20 {
		t.Errorf("P6: %d bytes", peak-before)
	}
}
