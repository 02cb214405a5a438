package modes_test

import (
	"fmt"
	"math"
	"slices"
	"strconv"
	"strings"
	"testing"

	"bailment/api"
	"bailment/expr"
	"bailment/modes"
	"bailment/prog"
	"bailment/show"
	"bailment/tree"
)

// items are those of a contract that is written.
func items(t *testing.T, s string) []api.Item {
	t.Helper()
	p, f := prog.Parse("contract k() " + s + " end main f;")
	if f.Code != api.OK {
		t.Fatalf("%q: %v", s, f)
	}
	return p.Units[0].Items
}

// bits are values as digits; -: there are none.
func bits(l []bool) string {
	s := ""
	for _, b := range l {
		s += map[bool]string{false: "0", true: "1"}[b]
	}
	return s
}

// text is a report, such as "a < 1, b | m n | no 00 | 0 1 yes".
func text(r modes.Report) string {
	verdict := func(n int, at []bool) string {
		return strings.TrimSpace([]string{"nothing", "yes", "no", "unknown"}[n] + " " + bits(at))
	}
	var atoms []string
	for _, a := range r.Atoms {
		atoms = append(atoms, show.Show(a))
	}
	l := []string{strings.Join(atoms, ", "), strings.Join(r.Modes, " "), verdict(r.Exhaustive, r.Gap)}
	for _, p := range r.Pairs {
		l = append(l, strconv.Itoa(p.I)+" "+strconv.Itoa(p.J)+" "+verdict(p.Verdict, p.Both))
	}
	return strings.Join(l, " | ")
}

// checks tells the report of some items: twice, since what is answered is nobody
// else's memory.
func checks(t *testing.T, what string, l []api.Item, budget int, want string) {
	t.Helper()
	before := fmt.Sprint(l)
	for range 2 {
		r, f := modes.Check(l, budget)
		if got := text(r); f != api.OK || got != want {
			t.Fatalf("P22.1: %s: %q, %d, not %q", what, got, f, want)
		}
		lists := [][]bool{r.Gap}
		for _, p := range r.Pairs {
			lists = append(lists, p.Both)
		}
		for i, at := range lists {
			old := slices.Clone(at)
			for k := range lists {
				if k != i {
					spoil(lists[k], !(len(at) > 0 && at[0]))
				}
			}
			if !slices.Equal(at, old) {
				t.Fatalf("R5: %s: %v has its memory from another one", what, old)
			}
		}
		for _, a := range r.Atoms {
			spoil(a, api.Node{Op: -9})
		}
		spoil(r.Atoms, nil)
		spoil(r.Modes, "spoilt")
		spoil(r.Pairs, modes.Pair{I: -9})
	}
	if fmt.Sprint(l) != before {
		t.Fatalf("R5: %s: %s is changed", what, before)
	}
}

// spoil writes all over a list, with its spare room: nobody else may mind.
func spoil[T any](l []T, by T) {
	for i := range l[:cap(l)] {
		l[:cap(l)][i] = by
	}
}

func checksNot(t *testing.T, l []api.Item, budget int) {
	t.Helper()
	r, f := modes.Check(l, budget)
	if f != api.ErrArg || r.Atoms != nil || r.Modes != nil || r.Exhaustive != 0 || r.Gap != nil || r.Pairs != nil {
		t.Errorf("P22.1: %.300s, %d: %q, %d", fmt.Sprint(l), budget, text(r), f)
	}
}

func mode(name string, e api.Expr) api.Item { return api.Item{Kind: api.Mode, Name: name, E: e} }

func assume(e api.Expr) api.Item { return api.Item{Kind: api.Assume, E: e} }

func read(t *testing.T, s string) api.Expr {
	t.Helper()
	e, f := expr.Read(s)
	if f.Code != api.OK {
		t.Fatalf("%q: %v", s, f)
	}
	return e
}

func TestByHand(t *testing.T) {
	for s, want := range map[string]string{
		// The chapter's example.
		"mode m require b ensure b; mode n require not b ensure b;": "b | m n | yes | 0 1 yes",
		// None at all, and one alone.
		"":                                     " |  | no",
		"assume true;":                         " |  | no",
		"assume false;":                        " |  | yes",
		"assume b;":                            "b |  | no 1",
		"assume b; assume not b;":              "b |  | yes",
		"mode m require true ensure b;":        " | m | yes",
		"mode m require false ensure b;":       " | m | no",
		"mode m require b ensure b;":           "b | m | no 0",
		"mode m require b or not b ensure b;":  "b | m | yes",
		"assume b; mode m require b ensure b;": "b | m | yes",
		"assume false; mode m require b ensure b; mode n require b ensure b;": "b | m n | yes | 0 1 yes",
		// The first values: false ahead of true, by the first atom.
		"mode m require a or b ensure c; mode n require a or c ensure c;":                           "a, b, c | m n | no 000 | 0 1 no 011",
		"assume a or b or c; mode m require a ensure c; mode n require b ensure c;":                 "a, b, c | m n | no 001 | 0 1 no 110",
		"mode m require not (a xor b) ensure c; mode n require b => a ensure c;":                    "a, b | m n | no 01 | 0 1 no 00",
		"mode m require if a then b else c ensure c; mode n require not a or b ensure c;":           "a, b, c | m n | no 100 | 0 1 no 001",
		"mode m require c and a ensure c; mode n require a and b ensure c;":                         "c, a, b | m n | no 000 | 0 1 no 111",
		"assume c; mode m require a and b ensure c; mode n require not a and b ensure c;":           "c, a, b | m n | no 100 | 0 1 yes",
		"assume c; assume a xor c; mode m require not a and c ensure b; mode n require a ensure b;": "c, a | m n | yes | 0 1 yes",
		// Atoms are what they are, whatever the others: these two are not known to be never both.
		"mode m require a < 1 ensure c; mode n require 1 <= a ensure c;": "a < 1, 1 <= a | m n | no 00 | 0 1 no 11",
		"mode m require a < 1 ensure c; mode n require a < 2 ensure c;":  "a < 1, a < 2 | m n | no 00 | 0 1 no 11",
		// What modes ensure, and all other items, are passed over.
		"guarantee a; mode m require b ensure c; ghost g: bool = d; import k(e); mode n require b ensure f(x);": "b | m n | no 0 | 0 1 no 1",
		// Assumptions' atoms are ahead of the modes', wherever they stand.
		"mode m require a ensure c; assume b; mode n require not a ensure c; assume c or b;": "b, c, a | m n | yes | 0 1 yes",
		// Pairs are told by I, and then by J; modes may have one name.
		"mode m require a ensure c; mode m require b ensure c; mode n require not a ensure c; mode o require a and b ensure c;": "a, b | m m n o | yes | 0 1 no 11 | 0 2 yes | 0 3 no 11 | 1 2 no 01 | 1 3 no 11 | 2 3 yes",
		"assume not b; mode m require a ensure c; mode n require b ensure c; mode o require true ensure c;":                     "b, a | m n o | yes | 0 1 yes | 0 2 no 01 | 1 2 yes",
	} {
		checks(t, s, items(t, s), 10000, want)
		if len(items(t, s)) < 4 {
			checks(t, s, items(t, s), 60, want)
		}
	}
}

// A mode may have any name: it is told as it is.
func TestNames(t *testing.T) {
	b := read(t, "b")
	checks(t, "names", []api.Item{mode("", b), mode("\xff", read(t, "not b")), mode("?0", b)}, 100, "b |  \xff ?0 | yes | 0 1 yes | 0 2 no 1 | 1 2 yes")
}

func TestErrors(t *testing.T) {
	good := items(t, "assume a; mode m require b ensure c;")
	for _, budget := range []int{math.MinInt, -1, 0, 1, 10001, 20000, 1 << 32, math.MaxInt} {
		checksNot(t, good, budget)
		checksNot(t, nil, budget)
	}
	checks(t, "no items", nil, 2, " |  | no")
	checks(t, "no items", nil, 10000, " |  | no")
	var many []api.Item
	for k := range 40 {
		many = append(many, mode("m", read(t, "a < "+strconv.Itoa(k))))
	}
	x := api.Node{Op: api.OpVar, A: -1, B: -1, C: -1, Name: "x"}
	for _, bad := range []api.Expr{nil, {}, {x, x}, {{Op: api.OpVar}}, {{Op: api.OpNot, A: 0, B: -1, C: -1}}} {
		for _, i := range []api.Item{assume(bad), mode("m", bad)} {
			checksNot(t, []api.Item{i}, 100)
			checksNot(t, append(slices.Clone(good), i), 100)
			checksNot(t, append([]api.Item{i}, good...), 100)
			checksNot(t, append(slices.Clone(many), i), 100)
			checksNot(t, append([]api.Item{i}, many...), 100)
		}
		// What is passed over may be anything.
		l := slices.Clone(good)
		for _, kind := range []int{api.Guarantee, api.Ghost, api.Import, 0, 6, -1, math.MaxInt} {
			l = append(l, api.Item{Kind: kind, Name: "z", E: bad, F: bad, Args: []api.Expr{bad}})
		}
		l = append(l, api.Item{Kind: api.Mode, Name: "n", E: read(t, "b"), F: bad, Args: []api.Expr{bad}}, api.Item{Kind: api.Assume, Name: "z", E: read(t, "a"), F: bad})
		checks(t, "passed over", l, 100, "a, b | m n | no 10 | 0 1 no 11")
	}
}

// With more than 30 atoms nothing is known, but which modes there are.
func TestAtoms(t *testing.T) {
	l := func(count int) []api.Item {
		var all []string
		for k := range count {
			all = append(all, "a < "+strconv.Itoa(k))
		}
		e := read(t, strings.Join(all, " and "))
		return []api.Item{mode("m", e), mode("n", tree.Join(api.OpNot, 0, "", e)), mode("o", read(t, "a < 0"))}
	}
	r, f := modes.Check(l(30), 10000)
	if f != api.OK || len(r.Atoms) != 30 || show.Show(r.Atoms[29]) != "a < 29" || r.Exhaustive != modes.Yes || len(r.Gap) != 0 {
		t.Errorf("P22.1: %q, %d", text(r), f)
	}
	r.Atoms = nil
	if got := text(r); got != " | m n o | yes | 0 1 yes | 0 2 no "+strings.Repeat("1", 30)+" | 1 2 no 1"+strings.Repeat("0", 29) {
		t.Errorf("P22.1: %q", got)
	}
	unknown := " | m n o | unknown | 0 1 unknown | 0 2 unknown | 1 2 unknown"
	checks(t, "31 atoms", l(31), 10000, unknown)
	checks(t, "31 atoms", l(31), 2, unknown)
	checks(t, "31 atoms", append(l(30), assume(read(t, "b"))), 10000, unknown)
	checks(t, "31 atoms", append(l(30)[:1], assume(read(t, "b"))), 10000, " | m | unknown")
	checks(t, "31 atoms", []api.Item{assume(l(31)[0].E)}, 10000, " |  | unknown")
	// So it is where it would be known without them.
	checks(t, "31 atoms", append(l(31), assume(read(t, "false"))), 10000, unknown)
	checks(t, "31 atoms", append(l(31)[:1], mode("p", read(t, "false")), mode("q", read(t, "true"))), 10000, " | m p q | unknown | 0 1 unknown | 0 2 unknown | 1 2 unknown")
}

// What goes into a budget is known, and what does not is not.
func TestBudgets(t *testing.T) {
	for _, c := range []struct {
		s      string
		budget int
		want   string
	}{
		{"mode m require true ensure b; mode n require false ensure b;", 2, " | m n | yes | 0 1 yes"},
		{"assume false; mode m require true ensure b; mode n require true ensure b;", 2, " | m n | yes | 0 1 yes"},
		{"mode m require true ensure b; mode n require true ensure b;", 2, " | m n | yes | 0 1 no"},
		{"assume b; mode m require true ensure b; mode n require true ensure b;", 2, "b | m n | unknown | 0 1 unknown"},
		{"assume b; mode m require true ensure b; mode n require true ensure b;", 3, "b | m n | yes | 0 1 no 1"},
		{"mode m require true ensure b; mode n require b ensure b; mode o require false ensure b;", 2, "b | m n o | unknown | 0 1 unknown | 0 2 yes | 1 2 unknown"},
		{"mode m require b ensure b; mode n require a ensure b;", 3, "b, a | m n | unknown | 0 1 unknown"},
		{"mode m require b ensure b; mode n require b ensure b;", 3, "b | m n | unknown | 0 1 no 1"},
		{"mode m require b ensure b; mode n require not b ensure b;", 4, "b | m n | yes | 0 1 yes"},
	} {
		checks(t, c.s, items(t, c.s), c.budget, c.want)
	}
}
