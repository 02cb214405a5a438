package simplex_test

import (
	"fmt"
	"math"
	"slices"
	"strings"
	"testing"

	"bailment/api"
	"bailment/prog"
	"bailment/simplex"
)

// short is the beginning of what a thing is as a text.
func short(x any) string {
	s := fmt.Sprint(x)
	return s[:min(len(s), 600)]
}

// spoil writes all over a list, with its spare room: nobody else may mind.
func spoil[T any](l []T, by T) {
	for i := range l[:cap(l)] {
		l[:cap(l)][i] = by
	}
}

func same(a, b simplex.Result) bool {
	return slices.Equal(a.Outs, b.Outs) && slices.Equal(a.Log, b.Log) && a.Latch == b.Latch && a.Why == b.Why && a.Ended == b.Ended && a.EndedAt == b.EndedAt
}

func source(t *testing.T, s string) api.Prog {
	t.Helper()
	p, f := prog.Parse(s)
	if f.Code != api.OK {
		t.Fatalf("%.300q: %v", s, f)
	}
	return p
}

// execs tells what a program does: twice, since what is answered is nobody
// else's memory, and nothing is kept.
func execs(t *testing.T, what string, p api.Prog, in [][]int, want simplex.Result) {
	t.Helper()
	before := fmt.Sprint(p, in)
	for range 2 {
		r, f := simplex.Exec(p, in)
		if f != api.OK || !same(r, want) {
			t.Fatalf("P24.1: %s, %s: %s, %d, not %s", short(what), short(in), short(r), f, short(want))
		}
		spoil(r.Outs, -9)
		spoil(r.Log, simplex.Verdict{Check: -9})
	}
	if fmt.Sprint(p, in) != before {
		t.Fatalf("R5: %s: %s is changed", short(what), short(before))
	}
}

// execsNot tells that there is no result of a program, whatever its inputs are.
func execsNot(t *testing.T, what string, p api.Prog, want api.Errno) {
	t.Helper()
	for _, in := range [][][]int{nil, {nil}, {{1}, {0}}, {{1 << 40}}} {
		if r, f := simplex.Exec(p, in); f != want || !same(r, simplex.Result{}) {
			t.Errorf("P24.1: %s: %s, %d, not %d", short(what), short(r), f, want)
		}
	}
}

func assume(check, at int) simplex.Verdict {
	return simplex.Verdict{Check: check, Kind: api.Assume, At: at}
}

func guarantee(check, at int) simplex.Verdict {
	return simplex.Verdict{Check: check, Kind: api.Guarantee, At: at}
}

func mode(check int, name string, at int) simplex.Verdict {
	return simplex.Verdict{Check: check, Kind: api.Mode, Name: name, At: at}
}

// goes is a result that neither fell back nor ended.
func goes(outs ...int) simplex.Result {
	return simplex.Result{Outs: outs, Latch: -1, EndedAt: -1}
}

// logs has some verdicts in it.
func logs(r simplex.Result, l ...simplex.Verdict) simplex.Result {
	r.Log = l
	return r
}

// falls is a result whose latch is set.
func falls(r simplex.Result, latch int, why api.Errno) simplex.Result {
	r.Latch, r.Why = latch, why
	return r
}

// ends is a result that has ended, behind all that was published.
func ends(r simplex.Result, why api.Errno) simplex.Result {
	r.Ended, r.EndedAt = why, len(r.Outs)
	return r
}

// rows are instants of one input.
func rows(l ...int) [][]int {
	var in [][]int
	for _, n := range l {
		in = append(in, []int{n})
	}
	return in
}

// zero is a fallback of one input, counted is one that tells how many instants
// there were, divided is one that fails where its input is 0.
const (
	zero    = "node z(a: int) returns (c: int) let c = 0; tel "
	counted = "node n(a: int) returns (c: int) let c = 100 -> pre c + 1; tel "
	divided = "node d(a: int) returns (c: int) let c = 60 div a; tel "
)

// one is a program whose main node has one input, and is what is written.
func one(t *testing.T, items, is, back string) api.Prog {
	t.Helper()
	s := zero + counted + divided + "node f(a: int) returns (c: int) contract " + items + " end let c = " + is + "; tel main f;"
	if back != "" {
		s += " fallback " + back + ";"
	}
	return source(t, s)
}

func TestPrimary(t *testing.T) {
	for _, back := range []string{"", "z", "n", "f"} {
		p := one(t, "", "a + 1", back)
		execs(t, "no instants", p, nil, goes())
		execs(t, "no instants", p, [][]int{}, goes())
		execs(t, "no contract", p, rows(1, 2, -7), goes(2, 3, -6))
		p = one(t, "", "0 -> pre c + a", back)
		execs(t, "the past", p, rows(5, 5, 5), goes(0, 5, 10))
		p = one(t, "guarantee c < 3; mode m require a > 0 ensure c > 0; assume true;", "a", back)
		execs(t, "all holds", p, rows(1, 2, -7, 0), goes(1, 2, -7, 0))
		// What a mode ensures is of no moment, unless it is required.
		p = one(t, "mode m require a > 0 ensure c < 5; mode n require false ensure false;", "a", back)
		execs(t, "not required", p, rows(-9, 1, 4, 0), goes(-9, 1, 4, 0))
	}
	p := source(t, "node f() returns (b: bool) contract guarantee b or prev b; end let b = true -> not pre b; tel main f;")
	execs(t, "no inputs", p, make([][]int, 4), goes(1, 0, 1, 0))
	execs(t, "no inputs", p, [][]int{{}, nil, {}}, goes(1, 0, 1))
	p = source(t, "node h(x: int) returns (y: int) contract guarantee false; end let y = once (x > 2) -> 0; tel main h;")
	execsNot(t, "a type", p, api.ErrType)
	p = source(t, "node h(x: int) returns (y: bool) contract guarantee false; assume 1 div x > 0; end let y = once (x > 2); tel node f(a: int; b: bool) returns (c: bool) var v: bool; let v = h(a); c = v and b; tel main f;")
	execs(t, "the contract of what is called is no matter", p, [][]int{{0, 1}, {3, 1}, {0, 0}, {0, 1}}, goes(0, 1, 0, 1))
}

// What is assumed is logged where it fails first, and nothing else comes of it.
func TestAssume(t *testing.T) {
	for _, back := range []string{"", "z", "n", "d"} {
		p := one(t, "assume a > 0;", "a", back)
		execs(t, "the first instant", p, rows(0, 5, 0, -1), logs(goes(0, 5, 0, -1), assume(0, 0)))
		execs(t, "a later one", p, rows(3, 5, 0, -1), logs(goes(3, 5, 0, -1), assume(0, 2)))
		p = one(t, "assume a > 0; guarantee true; assume a <> 7; assume a > 0;", "a", back)
		execs(t, "several", p, rows(3, 7, 0, 7), logs(goes(3, 7, 0, 7), assume(2, 1), assume(0, 2), assume(3, 2)))
	}
}

func TestFallback(t *testing.T) {
	p := one(t, "guarantee c < 3;", "a", "z")
	execs(t, "the example", p, rows(1, 5, 2), logs(falls(goes(1, 0, 0), 1, api.ErrGhost), guarantee(0, 1)))
	execs(t, "the first instant", p, rows(5, 1), logs(falls(goes(0, 0), 0, api.ErrGhost), guarantee(0, 0)))
	execs(t, "the last instant", p, rows(1, 5), logs(falls(goes(1, 0), 1, api.ErrGhost), guarantee(0, 1)))
	p = one(t, "guarantee c < 3;", "a", "n")
	execs(t, "it ran all along", p, rows(1, 2, 5, 1, 2), logs(falls(goes(1, 2, 102, 103, 104), 2, api.ErrGhost), guarantee(0, 2)))
	p = one(t, "mode m require a > 3 ensure c < 9;", "a * 2", "n")
	execs(t, "a mode", p, rows(4, 1, 5, 1), logs(falls(goes(8, 2, 102, 103), 2, api.ErrGhost), mode(0, "m", 2)))
	p = one(t, "", "60 div a", "n")
	execs(t, "a fault", p, rows(4, 0, 5), falls(goes(15, 101, 102), 1, api.ErrZero))
	p = one(t, "", "a * a", "n")
	execs(t, "a fault", p, rows(1, 1<<16, 5), falls(goes(1, 101, 102), 1, api.ErrOver))
	// Of several faults the least one is told.
	p = one(t, "assume 2147483647 + a > 0;", "1 div (a - 1)", "n")
	execs(t, "two faults", p, rows(0, 1), falls(goes(-1, 101), 1, api.ErrOver))
	p = one(t, "assume 1 div (a - 1) < 2;", "2147483647 + a", "n")
	execs(t, "two faults", p, rows(0, 1), falls(goes(math.MaxInt32, 101), 1, api.ErrOver))
	// What is of no moment to an output is to the node.
	p = source(t, counted+"node f(a: int) returns (c: int) var v: int; let c = a; v = 1 mod a; tel main f; fallback n;")
	execs(t, "a stream that nobody needs", p, rows(3, 0, 3), falls(goes(3, 101, 102), 1, api.ErrZero))
	p = one(t, "", "if a = 0 then 7 else 1 div a", "n")
	execs(t, "what is not taken", p, rows(1, 0), falls(goes(1, 101), 1, api.ErrZero))
	// And so is what stands in its contract alone.
	for items, f := range map[string]api.Errno{"assume 1 div a < 9;": api.ErrZero, "guarantee 1 div a < 9;": api.ErrZero, "ghost g: int = 1 mod a;": api.ErrZero, "mode m require false ensure 1 div a = 1;": api.ErrZero, "mode m require 1 div a > 9 ensure true;": api.ErrZero, "assume a - 2147483647 - 2 > 0 or true;": api.ErrOver} {
		execs(t, items, one(t, items, "a", "n"), rows(1<<30, 0, 1), falls(goes(1<<30, 101, 102), 1, f))
	}
	p = source(t, "contract k(x: int) ghost g: int = 0 -> pre x; mode m require g > x ensure x > 5; guarantee g < 20; end "+counted+
		"node f(a: int) returns (c: int) contract assume true; import k(c); guarantee k_g <> 8; end let c = a; tel main f; fallback n;")
	execs(t, "what is imported", p, rows(1, 9, 6, 8, 9, 1), logs(falls(goes(1, 9, 6, 8, 104, 105), 4, api.ErrGhost), guarantee(3, 4)))
	execs(t, "what is imported", p, rows(1, 9, 6, 5, 9, 1), logs(falls(goes(1, 9, 6, 103, 104, 105), 3, api.ErrGhost), mode(1, "k_m", 3)))
	p = source(t, "node b(a: bool) returns (c: bool) let c = not a; tel node f(a: bool) returns (c: bool) contract guarantee hist c; end let c = a; tel main f; fallback b;")
	execs(t, "truths", p, rows(1, 1, 0, 1, 0), logs(falls(goes(1, 1, 1, 0, 1), 2, api.ErrGhost), guarantee(0, 2)))
}

// It falls back once, for good: what the primary would be is of no moment then.
func TestForGood(t *testing.T) {
	p := one(t, "assume a > 0; guarantee c < 3; guarantee c < 9; assume a <> 50;", "60 div a", "n")
	execs(t, "what fails later", p, rows(30, 20, -1, 1, 0, 50, 60), logs(falls(goes(2, 101, 102, 103, 104, 105, 106), 1, api.ErrGhost), guarantee(1, 1)))
	execs(t, "what fails later", p, rows(30, 0, -1, 1, 0, 50, 60), falls(goes(2, 101, 102, 103, 104, 105, 106), 1, api.ErrZero))
	p = one(t, "guarantee c < 3; assume a > 0; mode m require true ensure c <> 5; guarantee c < 9; guarantee c < 5; assume a < 6;", "a", "z")
	execs(t, "several at once", p, rows(2, 5, 9), logs(falls(goes(2, 0, 0), 1, api.ErrGhost), guarantee(0, 1), mode(2, "m", 1), guarantee(4, 1)))
	execs(t, "several at once", p, rows(-2, 9, 5), logs(falls(goes(-2, 0, 0), 1, api.ErrGhost), assume(1, 0), guarantee(0, 1), guarantee(3, 1), guarantee(4, 1), assume(5, 1)))
	p = one(t, "assume a > 0; mode m require a < 5 ensure c > 1; mode m require a < 4 ensure c > 2; mode n require true ensure c < 8;", "a", "z")
	execs(t, "modes", p, rows(5, 1, 9), logs(falls(goes(5, 0, 0), 1, api.ErrGhost), mode(1, "m", 1), mode(2, "m", 1)))
	execs(t, "modes", p, rows(5, 9, 0), logs(falls(goes(5, 0, 0), 1, api.ErrGhost), mode(3, "n", 1)))
	// Where an operator tells an error, no check is looked at.
	p = one(t, "assume a > 0; guarantee c < 3; assume 1 div a < 1;", "a", "z")
	execs(t, "a fault goes ahead", p, rows(2, 0, -1), falls(goes(2, 0, 0), 1, api.ErrZero))
	execs(t, "a fault goes ahead", p, rows(-2, 0, -1), logs(falls(goes(-2, 0, 0), 1, api.ErrZero), assume(0, 0)))
	p = one(t, "assume a <> 3; guarantee 6 div a <> 2;", "a", "z")
	execs(t, "both", p, rows(2, 3, 0), logs(falls(goes(2, 0, 0), 1, api.ErrGhost), assume(0, 1), guarantee(1, 1)))
}

// Without a fallback, it ends where the primary fails.
func TestNoFallback(t *testing.T) {
	p := one(t, "assume a > 1; guarantee c < 3;", "a", "")
	execs(t, "a check", p, rows(1, 2, 5, 1), ends(logs(falls(goes(1, 2), 2, api.ErrGhost), assume(0, 0), guarantee(1, 2)), api.ErrGhost))
	execs(t, "the first instant", p, rows(3), ends(logs(falls(goes(), 0, api.ErrGhost), guarantee(1, 0)), api.ErrGhost))
	p = one(t, "assume a > 1;", "60 div a", "")
	execs(t, "a fault", p, rows(30, 20, 0, 1), ends(falls(goes(2, 3), 2, api.ErrZero), api.ErrZero))
	execs(t, "the first instant", p, rows(0, 2), ends(falls(goes(), 0, api.ErrZero), api.ErrZero))
	p = one(t, "", "a + 2147483647", "")
	execs(t, "a fault", p, rows(-1, 0, 1, 2), ends(falls(goes(math.MaxInt32-1, math.MaxInt32), 2, api.ErrOver), api.ErrOver))
}

// The fallback's errors are of no moment, as long as the latch is not set, but
// that it runs no more.
func TestFallbackFails(t *testing.T) {
	p := one(t, "guarantee c < 9;", "a", "d")
	execs(t, "never asked", p, rows(1, 0, 2, 0, 8), goes(1, 0, 2, 0, 8))
	execs(t, "ahead", p, rows(1, 0, 2, 10, 3), ends(logs(falls(goes(1, 0, 2), 3, api.ErrGhost), guarantee(0, 3)), api.ErrZero))
	execs(t, "ahead, at the first instant", p, rows(0, 10, 3), ends(logs(falls(goes(0), 1, api.ErrGhost), guarantee(0, 1)), api.ErrZero))
	execs(t, "behind", p, rows(1, 10, 3, 30, 0, 3), ends(logs(falls(goes(1, 6, 20, 2), 1, api.ErrGhost), guarantee(0, 1)), api.ErrZero))
	p = one(t, "guarantee c <> 0;", "a", "d")
	execs(t, "at once", p, rows(1, 0, 3), ends(logs(falls(goes(1), 1, api.ErrGhost), guarantee(0, 1)), api.ErrZero))
	// It ends by the fallback's error, whatever the primary's was.
	p = one(t, "", "a * a", "d")
	execs(t, "ahead", p, rows(2, 0, 1<<16, 3), ends(falls(goes(4, 0), 2, api.ErrOver), api.ErrZero))
	execs(t, "behind", p, rows(2, 1<<16, 1<<16, 30, 0), ends(falls(goes(4, 0, 0, 2), 1, api.ErrOver), api.ErrZero))
	p = source(t, "node w(a: int) returns (c: int) let c = 2147483647 + a; tel node f(a: int) returns (c: int) let c = 1 div (a - 1); tel main f; fallback w;")
	execs(t, "at once", p, rows(0, 1, 0), ends(falls(goes(-1), 1, api.ErrZero), api.ErrOver))
	execs(t, "ahead", p, rows(0, 2, 1, 0), ends(falls(goes(-1, 1), 2, api.ErrZero), api.ErrOver))
	// A node may be its own fallback, without its contract.
	p = one(t, "guarantee c < 9; assume 5 div (a - 1) > 0 or true;", "60 div a", "f")
	execs(t, "its own", p, rows(20, 6, 0, 2), ends(logs(falls(goes(3, 10), 1, api.ErrGhost), guarantee(0, 1)), api.ErrZero))
	execs(t, "its own", p, rows(20, 0, 2), ends(falls(goes(3), 1, api.ErrZero), api.ErrZero))
	execs(t, "its own", p, rows(20, 1, 2, 0), ends(falls(goes(3, 60, 30), 1, api.ErrZero), api.ErrZero))
}

// The fallback's contract is not watched, and tells no errors.
func TestFallbackContract(t *testing.T) {
	p := source(t, "node w(a: int) returns (c: int) contract guarantee false; assume 1 div a > 5; ghost g: int = 1 div (a - 1); mode m require true ensure c > 2; end let c = -a; tel "+
		"node f(a: int) returns (c: int) contract guarantee a < 9; end let c = a; tel main f; fallback w;")
	execs(t, "not watched", p, rows(0, 1, 5, 9, 1, 0), logs(falls(goes(0, 1, 5, -9, -1, 0), 3, api.ErrGhost), guarantee(0, 3)))
}

func TestFrames(t *testing.T) {
	bad := [][]int{nil, {}, {1}, {1, 1, 1}, {1 << 31, 1}, {-1<<31 - 1, 0}, {math.MaxInt, 0}, {1, 2}, {1, -1}, {1, 1 << 32}, {1 << 32, 0}, {0}, {0, 0, 0}}
	const nodes = "node w(a: int; b: bool) returns (c: int) let c = 60 div a + 1; tel node f(a: int; b: bool) returns (c: int) contract assume b; guarantee a < 9; end let c = 60 div a; tel main f;"
	for _, back := range []string{"", "fallback w;"} {
		p := source(t, nodes+back)
		for _, x := range bad {
			execs(t, "ahead of the latch", p, [][]int{{1, 1}, {2, 0}, x, {0, 1}}, ends(logs(goes(60, 30), assume(0, 1)), api.ErrFrame))
			execs(t, "the first instant", p, [][]int{x, {2, 0}, x}, ends(goes(), api.ErrFrame))
		}
		execs(t, "ends of what fits", p, [][]int{{math.MinInt32, 0}, {2, 1}}, logs(goes(0, 30), assume(0, 0)))
	}
	for _, x := range bad {
		p := source(t, nodes+"fallback w;")
		execs(t, "behind the latch", p, [][]int{{1, 1}, {9, 1}, {2, 0}, x, {0, 1}}, ends(logs(falls(goes(60, 7, 31), 1, api.ErrGhost), guarantee(1, 1)), api.ErrFrame))
		execs(t, "behind an end", p, [][]int{{1, 1}, {0, 1}, x}, ends(falls(goes(60), 1, api.ErrZero), api.ErrZero))
		execs(t, "behind an end", source(t, nodes), [][]int{{1, 1}, {9, 1}, x}, ends(logs(falls(goes(60), 1, api.ErrGhost), guarantee(1, 1)), api.ErrGhost))
		// The fallback has told an error, and the primary has not.
		p = source(t, "node w(a: int; b: bool) returns (c: int) let c = 1 div a; tel node f(a: int; b: bool) returns (c: int) contract guarantee b; end let c = a; tel main f; fallback w;")
		execs(t, "behind the fallback's end", p, [][]int{{1, 1}, {0, 1}, {0, 1}, x}, ends(goes(1, 0, 0), api.ErrFrame))
	}
	p := source(t, "node f() returns (c: int) let c = 0 -> pre c + 1; tel main f; fallback f;")
	execs(t, "no inputs", p, [][]int{nil, {}, {0}, nil}, ends(goes(0, 1), api.ErrFrame))
}

// Programs that can be written no other way than this: whose expressions are
// not in order.
func TestNotInOrder(t *testing.T) {
	p := one(t, "guarantee 3 - a > 0;", "a - 1 - 2", "z")
	for _, e := range []*api.Expr{&p.Units[3].Items[0].E, &p.Units[3].Eqs[0].E} {
		*e = turned(*e)
	}
	execs(t, "turned", p, rows(1, 2, 3), logs(falls(goes(-2, -1, 0), 2, api.ErrGhost), guarantee(0, 2)))
}

// turned has the last operands first.
func turned(e api.Expr) api.Expr {
	var out api.Expr
	var put func(i int) int
	put = func(i int) int {
		n := e[i]
		for _, k := range []*int{&n.C, &n.B, &n.A} {
			if *k >= 0 {
				*k = put(*k)
			}
		}
		out = append(out, n)
		return len(out) - 1
	}
	put(len(e) - 1)
	return out
}

// runs tells what a source does.
func runs(t *testing.T, s, inputs string, want simplex.Result) {
	t.Helper()
	for range 2 {
		r, f := simplex.Run(s, inputs)
		if f != (api.Fault{}) || !same(r, want) {
			t.Fatalf("P24.2: %s, %.200q: %s, %v, not %s", short(s), inputs, short(r), f, short(want))
		}
		spoil(r.Outs, -9)
		spoil(r.Log, simplex.Verdict{Check: -9})
	}
}

func runsNot(t *testing.T, s string, want api.Fault) {
	t.Helper()
	for _, inputs := range []string{"", "\n", "1\n0\n", "x", strings.Repeat("\n", 100001)} {
		if r, f := simplex.Run(s, inputs); f != want || !same(r, simplex.Result{}) {
			t.Errorf("P24.2: %s, %.200q: %s, %v, not %v", short(s), inputs, short(r), f, want)
		}
	}
}

func TestRun(t *testing.T) {
	const s = counted + "node w(a: int; b: bool) returns (c: int) let c = n(a); tel node f(a: int; b: bool) returns (c: int) contract assume b; guarantee c < 9; end let c = 60 div a; tel main f; "
	const back = s + "fallback w;"
	runs(t, s, "", goes())
	runs(t, s, "30 true\n-20   true", goes(2, -3))
	runs(t, s, "30 true\n-20 false\n", logs(goes(2, -3), assume(0, 1)))
	runs(t, back, "30 false\n6 true\n0 true\n1 true", logs(falls(goes(2, 101, 102, 103), 1, api.ErrGhost), assume(0, 0), guarantee(1, 1)))
	runs(t, s, "30 true\n6 true\n1 true", ends(logs(falls(goes(2), 1, api.ErrGhost), guarantee(1, 1)), api.ErrGhost))
	runs(t, "node f() returns (b: bool) let b = true -> not pre b; tel main f;", "\n \n\n", goes(1, 0, 1))
	// A line that is none ends it, unless it has ended ahead of that.
	for _, line := range []string{"x", "", "30", "30 true 1", "030 true", "30 1", "true true", "2147483648 true", "30 true\r", "\t30 true"} {
		runs(t, s, line+"\n30 true", ends(goes(), api.ErrFrame))
		runs(t, s, "30 true\n20 false\n"+line+"\n0 true", ends(logs(goes(2, 3), assume(0, 1)), api.ErrFrame))
		runs(t, back, "30 true\n0 true\n5 true\n"+line+"\n0 true", ends(falls(goes(2, 101, 102), 1, api.ErrZero), api.ErrFrame))
		runs(t, s, "30 true\n0 true\n"+line+"\n", ends(falls(goes(2), 1, api.ErrZero), api.ErrZero))
		runs(t, s, "30 true\n1 true\n"+line+"\n", ends(logs(falls(goes(2), 1, api.ErrGhost), guarantee(1, 1)), api.ErrGhost))
	}
	// Inputs that are too long have no lines at all.
	none := ends(goes(), api.ErrFrame)
	none.EndedAt = -1
	runs(t, s, strings.Repeat(" ", 100001), none)
	runs(t, back, "30 true\n0 true\n"+strings.Repeat(" ", 100000), none)
	runs(t, s, "30 true"+strings.Repeat(" ", 99993), goes(2))
}

// The document's examples of the whole, but for that of modes.
func TestExamples(t *testing.T) {
	const zero, none = "node z(a: int) returns (c: int) let c = 0; tel ", "node f(b: bool) returns (c: bool) let c = "
	of := func(items, is string) string {
		return zero + "node f(a: int) returns (c: int) contract " + items + " end let c = " + is + "; tel main f; fallback z;"
	}
	runs(t, of("", "0 -> pre c + 1"), "5\n5\n5\n", goes(0, 1, 2))
	runs(t, none+"once b; tel main f;", "false\ntrue\nfalse\nfalse\n", goes(0, 1, 1, 1))
	runs(t, none+"within 2 b; tel main f;", "false\ntrue\nfalse\nfalse\nfalse\n", goes(0, 1, 1, 1, 0))
	runsNot(t, of("", "pre a"), api.Fault{Code: api.ErrInit, At: -1})
	runsNot(t, of("", "c"), api.Fault{Code: api.ErrCycle, At: -1})
	runs(t, of("", "1 div a"), "1\n0\n1\n", falls(goes(1, 0, 0), 1, api.ErrZero))
	runs(t, of("guarantee c < 3;", "a"), "1\n5\n2\n", logs(falls(goes(1, 0, 0), 1, api.ErrGhost), guarantee(0, 1)))
	runs(t, of("assume a > 0;", "a"), "1\n0\n2\n", logs(goes(1, 0, 2), assume(0, 1)))
	runs(t, of("", "a"), "1\n?\n2\n", ends(goes(1), api.ErrFrame))
	// A text may be spaced in any way.
	runs(t, strings.ReplaceAll(of("guarantee c < 3;", "0 -> pre c + 1"), " ", " \n\t-- so\r\n"), "5\n5\n5\n5", logs(falls(goes(0, 1, 2, 0), 3, api.ErrGhost), guarantee(0, 3)))
}

// What is wrong with a source, and where; behind its text no place is told.
func TestRunFaults(t *testing.T) {
	const f = "node f(a: int) returns (c: int) let c = a; tel "
	at := func(e api.Errno, at int) api.Fault { return api.Fault{Code: e, At: at} }
	for s, want := range map[string]api.Fault{
		"": at(api.ErrSyntax, -1), "main": at(api.ErrSyntax, -1), "node": at(api.ErrSyntax, -1), f: at(api.ErrSyntax, -1), f + "main f; fallback": at(api.ErrSyntax, -1),
		"x": at(api.ErrSyntax, 0), "main f; x": at(api.ErrSyntax, 8), "  ?": at(api.ErrSyntax, 2), f + "main f; main f;": at(api.ErrSyntax, len(f)+8), "node f(a: int) returns (c: int) let c = 2147483648; tel main f;": at(api.ErrOver, 40),
		strings.Repeat(" ", 100001): at(api.ErrMany, -1),
		"main f;":                   at(api.ErrName, -1), f + "main g;": at(api.ErrName, -1), "contract f(a: int) end main f;": at(api.ErrName, -1), f + "main f; fallback g;": at(api.ErrCall, -1), f + f + "main f;": at(api.ErrTwice, -1),
		f + "node g(a: int) returns (c: int) let c = true; tel main f;": at(api.ErrType, -1), f + "node g(a: int) returns (c: int) let c = pre a; tel main f;": at(api.ErrInit, -1), f + "node g(a: int) returns (c: int) let c = c; tel main f;": at(api.ErrCycle, -1),
		"node f(a: int) returns (c: int) contract ghost g: int = 1; end let c = g; tel main f;": at(api.ErrGhost, -1), f + "node g(a: int) returns (c: int) let c = f(a, a); tel main g;": at(api.ErrCall, -1), f + "node g(b: int) returns (c: int) let c = b; tel main f; fallback g;": at(api.ErrCall, -1),
		"node f(a: int) returns (c: int) contract guarantee c; end let c = a; tel main f;": at(api.ErrType, -1), f + "node g(a: int) returns (c: int) contract assume pre a > 0; end let c = a; tel main f; fallback g;": at(api.ErrInit, -1),
	} {
		runsNot(t, s, want)
	}
}
