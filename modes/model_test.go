package modes_test

import (
	"fmt"
	"math"
	"math/rand"
	"slices"
	"strconv"
	"testing"

	"bailment/api"
	"bailment/flat"
	"bailment/modes"
	"bailment/monitor"
	"bailment/prog"
	"bailment/tree"
)

var connectives = []int{api.OpBool, api.OpNot, api.OpAnd, api.OpOr, api.OpXor, api.OpImp, api.OpIf}

// teller tells what the chapter says, by all values of the atoms: these are
// known by what their expressions are.
type teller struct {
	atoms   []api.Expr
	numbers map[string]int
	at      []bool
}

// meet has the atoms of an expression.
func (m *teller) meet(e api.Expr) {
	last := e[len(e)-1]
	if !slices.Contains(connectives, last.Op) {
		if _, is := m.numbers[fmt.Sprint(e)]; !is {
			m.numbers[fmt.Sprint(e)] = len(m.atoms)
			m.atoms = append(m.atoms, e)
		}
		return
	}
	for _, k := range tree.Kids(last) {
		m.meet(tree.Sub(e, k))
	}
}

// holds is what an expression is, of an atom's values.
func (m *teller) holds(e api.Expr) bool {
	last := e[len(e)-1]
	var kids []bool
	if !slices.Contains(connectives, last.Op) {
		return m.at[m.numbers[fmt.Sprint(e)]]
	}
	for _, k := range tree.Kids(last) {
		kids = append(kids, m.holds(tree.Sub(e, k)))
	}
	switch last.Op {
	case api.OpBool:
		return last.N == 1
	case api.OpNot:
		return !kids[0]
	case api.OpAnd:
		return kids[0] && kids[1]
	case api.OpOr:
		return kids[0] || kids[1]
	case api.OpXor:
		return kids[0] != kids[1]
	case api.OpImp:
		return !kids[0] || kids[1]
	}
	return kids[0] && kids[1] || !kids[0] && kids[2]
}

// told is the report of items, of which each expression is in order.
func told(l []api.Item) modes.Report {
	m := &teller{numbers: map[string]int{}}
	var r modes.Report
	var required []api.Expr
	for _, kind := range []int{api.Assume, api.Mode} {
		for _, i := range l {
			if i.Kind != kind {
				continue
			}
			m.meet(i.E)
			if kind == api.Mode {
				r.Modes = append(r.Modes, i.Name)
				required = append(required, i.E)
			}
		}
	}
	r.Atoms, r.Exhaustive = m.atoms, modes.Yes
	for i := range required {
		for j := i + 1; j < len(required); j++ {
			r.Pairs = append(r.Pairs, modes.Pair{I: i, J: j, Verdict: modes.Yes})
		}
	}
	for p := range 1 << len(m.atoms) {
		m.at = make([]bool, len(m.atoms))
		for i := range m.at {
			m.at[i] = p>>(len(m.at)-1-i)&1 == 1
		}
		if slices.ContainsFunc(l, func(i api.Item) bool { return i.Kind == api.Assume && !m.holds(i.E) }) {
			continue
		}
		var is []bool
		for _, e := range required {
			is = append(is, m.holds(e))
		}
		if !slices.Contains(is, true) && r.Exhaustive == modes.Yes {
			r.Exhaustive, r.Gap = modes.No, m.at
		}
		for k, x := range r.Pairs {
			if is[x.I] && is[x.J] && x.Verdict == modes.Yes {
				r.Pairs[k].Verdict, r.Pairs[k].Both = modes.No, m.at
			}
		}
	}
	return r
}

// pool are the atoms that expressions are made of here.
func pool(t *testing.T) []api.Expr {
	var l []api.Expr
	for _, s := range []string{"a < 1", "b", "pre (b and c)", "f(b, 2)", "a = (b or c)", "c"} {
		l = append(l, read(t, s))
	}
	return l
}

// some is an expression of some atoms, of so many nodes at most.
func some(r *rand.Rand, atoms []api.Expr, most int) api.Expr {
	if most <= 2 || r.Intn(6) == 0 {
		if a := atoms[r.Intn(len(atoms))]; r.Intn(8) > 0 && len(a) <= most {
			return a
		}
		return tree.Join(api.OpBool, r.Intn(2), "")
	}
	n := 1 + r.Intn(most-1)
	switch r.Intn(6) {
	case 0:
		return tree.Join(api.OpNot, 0, "", some(r, atoms, most-1))
	case 1:
		if most > 4 {
			n = 1 + r.Intn(most-3)
			return tree.Join(api.OpIf, 0, "", some(r, atoms, n), some(r, atoms, (most-n)/2), some(r, atoms, (most-n-1)/2))
		}
	}
	n = max(1, min(n, most-2))
	return tree.Join([]int{api.OpAnd, api.OpOr, api.OpXor, api.OpImp}[r.Intn(4)], 0, "", some(r, atoms, n), some(r, atoms, most-1-n))
}

// draws are items of so many nodes at most, but those that are passed over.
func draws(r *rand.Rand, atoms []api.Expr, most int) []api.Item {
	var l []api.Item
	nodes := 0
	for range r.Intn(14) {
		kind := []int{api.Assume, api.Mode, api.Mode, api.Mode, api.Guarantee, r.Intn(8)}[r.Intn(6)]
		i := api.Item{Kind: kind, Name: "m" + strconv.Itoa(r.Intn(9)), E: some(r, atoms, 1+r.Intn(25)), F: some(r, atoms, 2)}
		if kind == api.Assume || kind == api.Mode {
			if nodes+len(i.E) > most {
				continue
			}
			nodes += len(i.E)
		}
		l = append(l, i)
	}
	return l
}

// agrees holds a report against the right one: with less than the whole budget
// verdicts may be Unknown.
func agrees(t *testing.T, what string, l []api.Item, budget int, want modes.Report) (unknown int) {
	t.Helper()
	got, f := modes.Check(l, budget)
	hide := func(verdict int, at []bool, right *int, rightAt *[]bool) {
		if verdict == modes.Unknown && len(at) == 0 {
			unknown++
			*right, *rightAt = modes.Unknown, nil
		}
	}
	want.Pairs = slices.Clone(want.Pairs)
	hide(got.Exhaustive, got.Gap, &want.Exhaustive, &want.Gap)
	for i := range min(len(got.Pairs), len(want.Pairs)) {
		hide(got.Pairs[i].Verdict, got.Pairs[i].Both, &want.Pairs[i].Verdict, &want.Pairs[i].Both)
	}
	if f != api.OK || text(got) != text(want) {
		t.Fatalf("P22.1: %s, %d: %q, %d, not %q", what, budget, text(got), f, text(want))
	}
	return unknown
}

func TestMany(t *testing.T) {
	r := rand.New(rand.NewSource(221))
	all := pool(t)
	seen := map[string]int{}
	for n := range 3000 {
		atoms := slices.Clone(all)
		r.Shuffle(len(atoms), func(i, k int) { atoms[i], atoms[k] = atoms[k], atoms[i] })
		l := draws(r, atoms[:1+r.Intn(5)], 100)
		what := fmt.Sprint("case ", n)
		want := told(l)
		if unknown := agrees(t, what, l, 10000, want); unknown > 0 {
			t.Fatalf("P22.1: %s: %d unknown", what, unknown)
		}
		checks(t, what, l, 10000, text(want))
		for range 3 {
			if agrees(t, what, l, 2+r.Intn(30), want) > 0 {
				seen["unknown"]++
			} else {
				seen["known"]++
			}
		}
		seen["exhaustive "+strconv.Itoa(want.Exhaustive)]++
		for _, p := range want.Pairs {
			seen["pair "+strconv.Itoa(p.Verdict)]++
		}
	}
	for what, least := range map[string]int{"unknown": 1000, "known": 1000, "exhaustive 1": 300, "exhaustive 2": 300, "pair 1": 2000, "pair 2": 2000} {
		if seen[what] < least {
			t.Errorf("%s: seen %d times", what, seen[what])
		}
	}
}

// As many modes as go into 100 nodes, of 5 atoms: nothing is Unknown.
func TestNeverUnknown(t *testing.T) {
	r := rand.New(rand.NewSource(222))
	var leaves []api.Expr
	for _, name := range []string{"a", "b", "c", "d", "e"} {
		leaves = append(leaves, tree.Join(api.OpVar, 0, name))
	}
	leaf := func() api.Expr { return leaves[r.Intn(5)] }
	draw := func(size int) api.Expr {
		e := leaf()
		for len(e) < size {
			if size-len(e) == 1 {
				e = tree.Join(api.OpNot, 0, "", e)
				continue
			}
			e = tree.Join([]int{api.OpAnd, api.OpOr, api.OpXor, api.OpImp, api.OpXor}[r.Intn(5)], 0, "", leaf(), e)
		}
		return e
	}
	for size := 1; size <= 50; size++ {
		for assumed := range 3 {
			var l []api.Item
			for k := range 100 / size {
				i := mode("m", draw(size))
				if k < assumed {
					i.Kind = api.Assume
				}
				l = append(l, i)
			}
			if unknown := agrees(t, fmt.Sprint("size ", size), l, 10000, told(l)); unknown > 0 {
				t.Fatalf("P22.1: %d modes of %d nodes: %d unknown", len(l), size, unknown)
			}
		}
	}
	// All that differ, the smallest ones first.
	var l []api.Item
	nodes := 0
	for i, a := range leaves {
		l = append(l, mode("m", a), mode("m", tree.Join(api.OpNot, 0, "", a)))
		for k, b := range leaves {
			if i != k && nodes < 82 {
				nodes += 3
				l = append(l, mode("m", tree.Join([]int{api.OpXor, api.OpAnd, api.OpImp}[k%3], 0, "", a, b)))
			}
		}
	}
	if unknown := agrees(t, "many", l, 10000, told(l)); unknown > 0 {
		t.Errorf("P22.1: %d modes: %d unknown", len(l), unknown)
	}
}

func atom(i int) api.Expr { return tree.Join(api.OpVar, 0, "a"+strconv.Itoa(i)) }

// join puts many together, no deeper than needed.
func join(op int, l []api.Expr) api.Expr {
	if len(l) == 1 {
		return l[0]
	}
	return tree.Join(op, 0, "", join(op, l[:len(l)/2]), join(op, l[len(l)/2:]))
}

// ordered is an assumption that says nothing, but has 30 atoms in their order.
func ordered() api.Item {
	var l []api.Expr
	for i := range 30 {
		l = append(l, atom(i))
	}
	return assume(tree.Join(api.OpOr, 0, "", join(api.OpOr, l), tree.Join(api.OpBool, 1, "")))
}

// scattered requires one of so many pairs of atoms far from each other.
func scattered(r *rand.Rand, count int) api.Item {
	p := r.Perm(30)
	var l []api.Expr
	for i := range count {
		l = append(l, tree.Join(api.OpAnd, 0, "", atom(p[2*i]), atom(p[2*i+1])))
	}
	return mode("m", join(api.OpOr, l))
}

// cube requires that all atoms are as they are there.
func cube(at []bool) api.Item {
	var l []api.Expr
	for i, b := range at {
		e := atom(i)
		if !b {
			e = tree.Join(api.OpNot, 0, "", e)
		}
		l = append(l, e)
	}
	return mode("m", join(api.OpAnd, l))
}

func verdicts(t *testing.T, l []api.Item, budget int) modes.Report {
	t.Helper()
	r, f := modes.Check(l, budget)
	if n := len(r.Modes); f != api.OK || len(r.Atoms) != 30 || len(r.Pairs) != n*(n-1)/2 {
		t.Fatalf("P22.1: %d, %d atoms, %d modes, %d pairs", f, len(r.Atoms), n, len(r.Pairs))
	}
	return r
}

// Contracts of many modes of many atoms are told: what is known of some does
// not use up what the others need.
func TestGreat(t *testing.T) {
	r := rand.New(rand.NewSource(223))
	l := []api.Item{ordered()}
	for k := range 200 {
		at := make([]bool, 30)
		for i := range at {
			at[i] = i < 8 && k>>i&1 == 1 || i >= 8 && r.Intn(2) == 1
		}
		l = append(l, cube(at))
	}
	for _, p := range verdicts(t, l, 10000).Pairs {
		if p.Verdict != modes.Yes {
			t.Fatalf("P22.1: cubes: %v", p)
		}
	}
	for budget, count := range map[int]int{10000: 6, 1000: 4} {
		l = []api.Item{ordered()}
		for range 20 {
			l = append(l, scattered(r, count))
		}
		for _, p := range verdicts(t, l, budget).Pairs {
			if p.Verdict != modes.No {
				t.Fatalf("P22.1: %d pairs: %v", count, p)
			}
		}
	}
	l = []api.Item{ordered()}
	for range 200 {
		l = append(l, mode("m", tree.Join(api.OpAnd, 0, "", atom(r.Intn(30)), atom(r.Intn(30)))))
	}
	for _, p := range verdicts(t, l, 10000).Pairs {
		if p.Verdict != modes.No {
			t.Fatalf("P22.1: one pair: %v", p)
		}
	}
}

// Functions that have no small diagram are not known, or are what they are;
// beside them all others are known.
func TestGreatDiagrams(t *testing.T) {
	r := rand.New(rand.NewSource(227))
	l := []api.Item{ordered()}
	for range 20 {
		l = append(l, scattered(r, 15))
	}
	for i := range 30 {
		l = append(l, mode("m", atom(i)))
	}
	rep := verdicts(t, l, 10000)
	if rep.Exhaustive == modes.Yes {
		t.Errorf("P22.1: %d", rep.Exhaustive)
	}
	for _, p := range rep.Pairs {
		var both []bool
		for i := range 30 {
			both = append(both, i == p.I-20 || i == p.J-20)
		}
		if p.Verdict == modes.Yes || p.I >= 20 && (p.Verdict != modes.No || !slices.Equal(p.Both, both)) {
			t.Errorf("P22.1: %v", p)
		}
	}
	// So it is where each one is known, and no two of them are.
	l = []api.Item{ordered()}
	for range 40 {
		l = append(l, scattered(r, 7))
	}
	for i := range 10 {
		l = append(l, mode("m", atom(i)))
	}
	for _, p := range verdicts(t, l, 700).Pairs {
		if p.Verdict == modes.Yes || p.I >= 40 && p.Verdict != modes.No {
			t.Errorf("P22.1: %v", p)
		}
	}
	// Assumptions that have none together.
	l = []api.Item{ordered()}
	for i := range 15 {
		l = append(l, assume(tree.Join(api.OpOr, 0, "", atom(i), atom(i+15))))
	}
	l = append(l, mode("m", atom(0)), mode("m", atom(1)))
	if rep = verdicts(t, l, 10000); rep.Exhaustive == modes.Yes || rep.Pairs[0].Verdict == modes.Yes {
		t.Errorf("P22.1: %d, %v", rep.Exhaustive, rep.Pairs)
	}
}

// clauses are pairs of literals, of which one at least is true: 2*i is atom i, 2*i+1 that it is not.
type clauses [][2]int

// hold tells whether there are values at which all clauses are true: no literal
// asks for what is not, and that for it again.
func (l clauses) hold() bool {
	var asks [60]uint64
	for _, c := range l {
		asks[c[0]^1] |= 1 << c[1]
		asks[c[1]^1] |= 1 << c[0]
	}
	for k := range asks {
		for i := range asks {
			if asks[i]>>k&1 == 1 {
				asks[i] |= asks[k]
			}
		}
	}
	for i := range asks {
		if asks[i]>>(i^1)&1 == 1 && asks[i^1]>>i&1 == 1 {
			return false
		}
	}
	return true
}

// first are the first values at which all are true.
func (l clauses) first(count int) []bool {
	if !l.hold() {
		return nil
	}
	var at []bool
	for i := range count {
		with := append(slices.Clone(l), [2]int{2*i + 1, 2*i + 1})
		at = append(at, !with.hold())
		if at[i] {
			with[len(l)] = [2]int{2 * i, 2 * i}
		}
		l = with
	}
	return at
}

// Contracts of as many atoms as there may be, whose assumptions are clauses of
// two, and what modes require is that two literals are true.
func TestClauses(t *testing.T) {
	r := rand.New(rand.NewSource(226))
	verdict := func(l clauses) (int, []bool) {
		if at := l.first(30); len(at) > 0 {
			return modes.No, at
		}
		return modes.Yes, nil
	}
	literal := func(n int) api.Expr {
		e := tree.Join(api.OpVar, 0, "a"+strconv.Itoa(n/2))
		return []api.Expr{e, tree.Join(api.OpNot, 0, "", e)}[n&1]
	}
	seen := map[string]int{}
	for range 150 {
		l := []api.Item{}
		all, gap := clauses{}, clauses{}
		var required [][2]int
		for i := range 30 {
			// Each atom is there, and asks for nothing.
			l = append(l, assume(tree.Join(api.OpOr, 0, "", literal(2*i), literal(2*i+1))))
		}
		for range r.Intn(40) {
			c := [2]int{r.Intn(60), r.Intn(60)}
			all = append(all, c)
			l = append(l, assume(tree.Join(api.OpOr, 0, "", literal(c[0]), literal(c[1]))))
		}
		for range r.Intn(30) {
			c := [2]int{r.Intn(60), r.Intn(60)}
			required = append(required, c)
			gap = append(gap, [2]int{c[0] ^ 1, c[1] ^ 1})
			l = append(l, mode("m", tree.Join(api.OpAnd, 0, "", literal(c[0]), literal(c[1]))))
		}
		rep, f := modes.Check(l, 10000)
		if f != api.OK || len(rep.Pairs) != len(required)*(len(required)-1)/2 {
			t.Fatalf("P22.1: %d, %d pairs", f, len(rep.Pairs))
		}
		agree := func(what string, got int, at []bool, l clauses) {
			seen[what+strconv.Itoa(got)]++
			if want, first := verdict(l); got != modes.Unknown && got != want || got != modes.Unknown && !slices.Equal(at, first) || got == modes.Unknown && len(at) > 0 {
				t.Fatalf("P22.1: %v, %v: %s is %d, %v, not %d, %v", all, required, what, got, at, want, first)
			}
		}
		agree("exhaustive ", rep.Exhaustive, rep.Gap, slices.Concat(all, gap))
		for _, p := range rep.Pairs {
			both := slices.Clone(all)
			for _, n := range slices.Concat(required[p.I][:], required[p.J][:]) {
				both = append(both, [2]int{n, n})
			}
			agree("pair ", p.Verdict, p.Both, both)
		}
	}
	for what, least := range map[string]int{"exhaustive 1": 10, "exhaustive 2": 50, "pair 1": 1000, "pair 2": 1000} {
		if seen[what] < least {
			t.Errorf("%s: %v", what, seen)
		}
	}
}

// Where it is told so, some mode's requirement holds at each instant at which
// all assumptions do, and never those of two.
func TestTraces(t *testing.T) {
	r := rand.New(rand.NewSource(224))
	one := func(l ...string) string { return l[r.Intn(len(l))] }
	atom := func() string {
		return one("a < 1", "b", "once b", "c < a", "prev b", "true -> pre b", "within 1 (a = 0)", "h", "false -> pre (a < 1)")
	}
	var cond func(deep int) string
	cond = func(deep int) string {
		switch {
		case deep == 0:
			return "(" + atom() + ")"
		case r.Intn(3) == 0:
			return "(not " + cond(deep-1) + ")"
		case r.Intn(5) == 0:
			return "(if " + cond(deep-1) + " then " + cond(deep-1) + " else " + cond(deep-1) + ")"
		}
		return "(" + cond(deep-1) + one(" and ", " or ", " and ", " xor ", " => ") + cond(deep-1) + ")"
	}
	seen := map[string]int{}
	for range 3000 {
		text := ""
		for range r.Intn(3) {
			text += "assume " + cond(r.Intn(2)) + "; "
		}
		x := cond(r.Intn(2))
		for i, s := range []string{x + " and " + cond(r.Intn(2)), "not " + x, cond(r.Intn(3)), x}[r.Intn(3):] {
			text += "mode m" + strconv.Itoa(i) + " require " + s + " ensure " + cond(0) + "; "
		}
		p, fault := prog.Parse("node f(a: int; b: bool) returns (c: int) contract ghost h: bool = a < 2; " + text + "end let c = 0 -> pre a; tel main f;")
		if fault.Code != api.OK {
			t.Fatalf("%q: %v", text, fault)
		}
		rep, f := modes.Check(p.Units[0].Items, 10000)
		streams, checks, f2 := monitor.Make(p, "f")
		if f != api.OK || f2 != api.OK {
			t.Fatalf("%q: %d, %d", text, f, f2)
		}
		var in [][]int
		for range 20 {
			in = append(in, []int{r.Intn(4) - 1, r.Intn(2)})
		}
		rows, _ := flat.Run(streams, in)
		if len(rows) != 20 {
			t.Fatalf("%q: %d instants", text, len(rows))
		}
		for at, row := range rows {
			assumed := true
			var is []bool
			for _, c := range checks {
				switch c.Kind {
				case api.Assume:
					assumed = assumed && row[c.Holds] == 1
				case api.Mode:
					is = append(is, row[c.Active] == 1)
				}
			}
			if !assumed {
				continue
			}
			some := slices.Contains(is, true)
			if rep.Exhaustive == modes.Yes && !some {
				t.Fatalf("P22.2: %q, %v: no mode at %d", text, in, at)
			}
			seen[fmt.Sprint("exhaustive ", rep.Exhaustive, some)]++
			for _, x := range rep.Pairs {
				both := is[x.I] && is[x.J]
				if x.Verdict == modes.Yes && both {
					t.Fatalf("P22.2: %q, %v: %v at %d", text, in, x, at)
				}
				seen[fmt.Sprint("pair ", x.Verdict, both)]++
			}
		}
	}
	for _, what := range []string{"exhaustive 1 true", "exhaustive 2 false", "exhaustive 2 true", "pair 1 false", "pair 2 true", "pair 2 false"} {
		if seen[what] < 1000 {
			t.Errorf("%s: seen %d times: %v", what, seen[what], seen)
		}
	}
}

// Nothing that is handed in makes a call panic.
func TestAnything(t *testing.T) {
	r := rand.New(rand.NewSource(225))
	draw := func() int {
		return []int{-1, -1, 0, 0, 1, 2, r.Intn(32), math.MinInt, math.MaxInt}[r.Intn(9)]
	}
	seen := map[api.Errno]int{}
	for range 50000 {
		var l []api.Item
		may := true
		for range r.Intn(4) {
			i := api.Item{Kind: r.Intn(6), Name: "m"}
			for range r.Intn(3) {
				n := api.Node{Op: 1 + r.Intn(5), A: -1, B: -1, C: -1, Name: []string{"", "b", "?0"}[r.Intn(3)]}
				switch r.Intn(3) {
				case 0:
					n.Op, n.Name = api.OpVar, "b"
				case 1:
					n.Op, n.A, n.N = draw(), draw(), r.Intn(2)
				}
				i.E = append(i.E, n)
			}
			may = may && (i.Kind != api.Assume && i.Kind != api.Mode || tree.May(i.E))
			l = append(l, i)
		}
		budget := []int{2, 3, 100, 10000, draw()}[r.Intn(5)]
		rep, f := modes.Check(l, budget)
		if want := may && budget >= 2 && budget <= 10000; want != (f == api.OK) || !want && (f != api.ErrArg || text(rep) != " |  | nothing") {
			t.Fatalf("P22.1: %v, %d: %v, %d", l, budget, rep, f)
		}
		seen[f]++
	}
	if seen[api.OK] < 10000 || seen[api.ErrArg] < 10000 {
		t.Error(seen)
	}
}
