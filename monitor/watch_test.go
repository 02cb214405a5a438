package monitor_test

import (
	"math"
	"slices"
	"testing"

	"bailment/api"
	"bailment/flat"
	"bailment/monitor"
)

// watches is a watch of checks that nobody else has any more.
func watches(t *testing.T, l []monitor.Check) *monitor.Watch {
	t.Helper()
	own := slices.Clone(l)
	w := monitor.New(own)
	if w == nil || !slices.Equal(own, l) {
		t.Fatalf("P19.2: %v: %v", l, w)
	}
	spoil(own, monitor.Check{Holds: -9})
	is(t, "fresh", w, slices.Repeat([]int{-1}, len(l)), 0)
	return w
}

// is tells how a watch stands.
func is(t *testing.T, what string, w *monitor.Watch, first []int, count int) {
	t.Helper()
	for range 2 {
		l := w.First()
		if !slices.Equal(l, first) || w.Count() != count {
			t.Fatalf("P19.2: %s: %v, %d, not %v, %d", what, l, w.Count(), first, count)
		}
		spoil(l, -9)
	}
}

// steps tells which checks fail first at an instant.
func steps(t *testing.T, what string, w *monitor.Watch, row, failed, first []int) {
	t.Helper()
	count, given := w.Count(), slices.Clone(row)
	l := w.Step(given)
	if !slices.Equal(l, failed) || !slices.Equal(given, row) {
		t.Fatalf("P19.2: %s, %v, now %v: %v, not %v", what, row, given, l, failed)
	}
	spoil(given, 0)
	spoil(l, -9)
	is(t, what, w, first, count+1)
}

func TestWatch(t *testing.T) {
	w := watches(t, []monitor.Check{{Kind: api.Guarantee, Holds: 0, Active: -1}})
	steps(t, "the example", w, []int{1}, nil, []int{-1})
	steps(t, "the example", w, []int{0}, []int{0}, []int{1})
	steps(t, "the example", w, []int{1}, nil, []int{1})
	steps(t, "the example", w, []int{0}, nil, []int{1})
	// In their order, not by their streams; several may have one.
	w = watches(t, []monitor.Check{{Kind: api.Mode, Name: "m", Holds: 3, Active: 0}, {Kind: api.Assume, Holds: 1, Active: -1}, {Kind: api.Guarantee, Holds: 2, Active: -1}, {Kind: api.Guarantee, Holds: 1, Active: -1}})
	steps(t, "several", w, []int{0, 1, 1, 1}, nil, []int{-1, -1, -1, -1})
	steps(t, "several", w, []int{1, 0, 1, 0}, []int{0, 1, 3}, []int{1, 1, -1, 1})
	steps(t, "several", w, []int{0, 0, 1, 0}, nil, []int{1, 1, -1, 1})
	steps(t, "several", w, []int{0, 0, 0, 0}, []int{2}, []int{1, 1, 3, 1})
	steps(t, "several", w, nil, nil, []int{1, 1, 3, 1})
	// At the very first instant.
	w = watches(t, []monitor.Check{{Holds: 1}, {Holds: 0}})
	steps(t, "first", w, []int{0, 0, 0}, []int{0, 1}, []int{0, 0})
	// Whatever is not 0 holds.
	w = watches(t, []monitor.Check{{Holds: 0}})
	for _, n := range []int{1, 2, -1, math.MinInt, math.MaxInt} {
		steps(t, "not 0", w, []int{n}, nil, []int{-1})
	}
}

// A stream that is not there does not hold.
func TestNotThere(t *testing.T) {
	var l []monitor.Check
	var all, first []int
	for i, k := range []int{-1, -2, 3, 4, 1000, math.MinInt, math.MaxInt} {
		l = append(l, monitor.Check{Holds: k, Active: 0})
		all, first = append(all, i), append(first, 0)
	}
	steps(t, "not there", watches(t, l), []int{1, 1, 1}, all, first)
	steps(t, "no row", watches(t, l), nil, all, first)
	w := watches(t, []monitor.Check{{Holds: 1}, {Holds: 0}, {Holds: 2}})
	steps(t, "long", w, []int{1, 1, 1}, nil, []int{-1, -1, -1})
	steps(t, "shorter", w, []int{1, 1}, []int{2}, []int{-1, -1, 1})
	steps(t, "empty", w, []int{}, []int{0, 1}, []int{2, 2, 1})
	steps(t, "long", w, []int{0, 0, 0}, nil, []int{2, 2, 1})
}

func TestNoChecks(t *testing.T) {
	for range 2 {
		var none *monitor.Watch
		if l := none.Step([]int{0, 1}); l != nil || none.First() != nil || none.Count() != 0 {
			t.Errorf("P19.2: of nil: %v, %v, %d", l, none.First(), none.Count())
		}
	}
	for _, w := range []*monitor.Watch{monitor.New(nil), monitor.New([]monitor.Check{}), {}} {
		if w == nil {
			t.Fatal("P19.2: no watch")
		}
		steps(t, "no checks", w, []int{0, 0}, nil, nil)
		steps(t, "no checks", w, nil, nil, nil)
	}
}

// Watches of the same checks are each of its own; many instants are no matter.
func TestLong(t *testing.T) {
	l := []monitor.Check{{Holds: 0}, {Holds: 1}, {Holds: 2}}
	w, other := watches(t, l), watches(t, l)
	for i := range 300000 {
		row := []int{1, 1, 1}
		if i == 299998 {
			row[1] = 0
		}
		var want []int
		if row[1] == 0 {
			want = []int{1}
		}
		if got := w.Step(row); !slices.Equal(got, want) {
			t.Fatalf("P19.2: at %d: %v", i, got)
		}
	}
	is(t, "long", w, []int{-1, 299998, -1}, 300000)
	is(t, "other", other, []int{-1, -1, -1}, 0)
	steps(t, "other", other, []int{0, 1, 0}, []int{0, 2}, []int{0, -1, 0})
	is(t, "long", w, []int{-1, 299998, -1}, 300000)
}

// fails tells where the checks of a node fail first, of so many instants.
func fails(t *testing.T, what string, p api.Prog, in [][]int, first []int, instants int, fault api.Errno) {
	t.Helper()
	l, k, f := monitor.Make(p, "f")
	if f != api.OK {
		t.Fatalf("P19.1: %s: %d", what, f)
	}
	rows, f := flat.Run(l, in)
	if f != fault || len(rows) != instants {
		t.Fatalf("P19.3: %s: %d instants, %d, not %d, %d", what, len(rows), f, instants, fault)
	}
	w := watches(t, k)
	for _, row := range rows {
		w.Step(row)
	}
	is(t, what, w, first, instants)
}

func TestFailsFirst(t *testing.T) {
	one := func(items string) api.Prog {
		return source(t, "node f(a: int; b: bool) returns (c: int) contract "+items+" end let c = a + 1; tel main f;")
	}
	in := [][]int{{3, 0}, {0, 1}, {-1, 0}, {7, 1}, {-9, 0}}
	fails(t, "the example", one("guarantee c > 0;"), in, []int{2}, 5, api.OK)
	fails(t, "never", one("guarantee c > a; assume true;"), in, []int{-1, -1}, 5, api.OK)
	fails(t, "at once", one("assume false; guarantee a = 7;"), in, []int{0, 0}, 5, api.OK)
	fails(t, "the past", one("guarantee hist (a >= 0); assume true -> pre (a >= 0); guarantee a > 2 since a < 1; assume once (a = 0); guarantee within 1 b or a = 3; guarantee not prev b;"), in, []int{2, 3, 0, 0, -1, 2}, 5, api.OK)
	// A mode fails where it requires what is true, and ensures what is not.
	fails(t, "modes", one("mode m require b ensure a < 1; mode n require not b ensure a > 0; mode o require a > 100 ensure false; mode p require false ensure true; mode q require true ensure a > -9;"), in, []int{3, 2, -1, -1, 4}, 5, api.OK)
	fails(t, "ghosts", one("ghost g: int = 0 -> pre c; ghost h: bool = g < 1; guarantee not h or a = 3; assume g < 4;"), in, []int{3, 1}, 5, api.OK)
	// What is reckoned wrong ends all, in a contract too; nothing is told of that instant.
	fails(t, "a fault", one("guarantee a = 3; guarantee 1 div a < 9 or true; assume a = 3;"), in, []int{-1, -1, -1}, 1, api.ErrZero)
	fails(t, "a frame", one("guarantee a = 3; guarantee b or a > 0;"), append(in[:2:2], []int{1, 2}), []int{1, -1}, 2, api.ErrFrame)
}
