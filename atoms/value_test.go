package atoms_test

import (
	"fmt"
	"math"
	"math/rand"
	"slices"
	"strconv"
	"testing"

	"bailment/api"
	"bailment/atoms"
	"bailment/bdd"
	"bailment/flat"
)

// worth tells what an expression over atoms is, of values that stay as they are.
func worth(t *testing.T, e api.Expr, at []bool, want bool) {
	t.Helper()
	before := fmt.Sprint(e, at)
	if b, f := atoms.Value(e, at); b != want || f != api.OK {
		t.Fatalf("P21.2: %v at %v: %v, %d, not %v", e, at, b, f, want)
	}
	if fmt.Sprint(e, at) != before {
		t.Fatalf("R5: %s is changed", before)
	}
}

// refuses tells that something is no expression over so many atoms, for a value
// and for a store, in which nothing is made then.
func refuses(t *testing.T, e api.Expr, count int) {
	t.Helper()
	if b, f := atoms.Value(e, slices.Repeat([]bool{true}, count)); b || f != api.ErrArg {
		t.Errorf("P21.2: %v of %d: %v, %d", e, count, b, f)
	}
	s := opens(t, count, 10000)
	if f, fault := atoms.Make(s, e); f != 0 || fault != api.ErrArg || s.Size() != 2 {
		t.Errorf("P21.2: %v of %d: %d, %d, %d nodes", e, count, f, fault, s.Size())
	}
}

func opens(t *testing.T, vars, budget int) *bdd.Store {
	t.Helper()
	s, f := bdd.New(vars, budget)
	if f != api.OK {
		t.Fatalf("P20.1: %d", f)
	}
	return s
}

// makes tells the function of an expression, by all its values.
func makes(t *testing.T, s *bdd.Store, e api.Expr, count int, holds func(at []bool) bool) int {
	t.Helper()
	before := fmt.Sprint(e)
	f, fault := atoms.Make(s, e)
	if fault != api.OK || fmt.Sprint(e) != before {
		t.Fatalf("P21.2: %s: %d, %v", before, fault, e)
	}
	for _, at := range points(count) {
		if b, fault := s.Value(f, at); b != holds(at) || fault != api.OK {
			t.Fatalf("P21.3: %v at %v: %v, %d", e, at, b, fault)
		}
	}
	return f
}

func TestOperators(t *testing.T) {
	a, b, c := v("?0"), v("?1"), v("?2")
	for i, x := range []struct {
		e     *term
		holds func(a, b, c bool) bool
	}{
		{truth(0), func(a, b, c bool) bool { return false }},
		{truth(1), func(a, b, c bool) bool { return true }},
		{a, func(a, b, c bool) bool { return a }},
		{c, func(a, b, c bool) bool { return c }},
		{op(api.OpNot, b), func(a, b, c bool) bool { return !b }},
		{op(api.OpAnd, a, b), func(a, b, c bool) bool { return a && b }},
		{op(api.OpOr, a, c), func(a, b, c bool) bool { return a || c }},
		{op(api.OpXor, b, c), func(a, b, c bool) bool { return b != c }},
		{op(api.OpXor, c, b), func(a, b, c bool) bool { return b != c }},
		{op(api.OpImp, a, b), func(a, b, c bool) bool { return !a || b }},
		{op(api.OpImp, b, a), func(a, b, c bool) bool { return !b || a }},
		{op(api.OpIf, a, b, c), func(a, b, c bool) bool { return a && b || !a && c }},
		{op(api.OpIf, c, b, a), func(a, b, c bool) bool { return c && b || !c && a }},
		{op(api.OpXor, op(api.OpXor, a, b), op(api.OpNot, c)), func(a, b, c bool) bool { return a == (b == !c) }},
		{op(api.OpImp, op(api.OpAnd, a, truth(1)), op(api.OpOr, truth(0), b)), func(a, b, c bool) bool { return !a || b }},
	} {
		s := opens(t, 3, 100)
		holds := func(at []bool) bool { return x.holds(at[0], at[1], at[2]) }
		for _, at := range points(3) {
			if got, f := atoms.Value(x.e.ordered(), at); got != holds(at) || f != api.OK {
				t.Errorf("P21.2: case %d at %v: %v, %d", i, at, got, f)
			}
		}
		makes(t, s, x.e.ordered(), 3, holds)
	}
}

// More values than atoms, and none where none is asked for.
func TestValueCounts(t *testing.T) {
	worth(t, truth(1).ordered(), nil, true)
	worth(t, truth(0).ordered(), []bool{}, false)
	worth(t, v("?0").ordered(), []bool{true, false}, true)
	worth(t, v("?1").ordered(), []bool{true, false}, false)
	at := make([]bool, 1001)
	at[1000] = true
	worth(t, v("?1000").ordered(), at, true)
	worth(t, v("?30").ordered(), at, false)
}

func TestNoAtoms(t *testing.T) {
	for _, name := range []string{"?", "?-0", "?-1", "?+0", "?+1", "?00", "?01", "?0 ", " ?0", "? 0", "??0", "?0?", "0", "1", "a", "?a", "?0x0", "?1_0", "?1e0", "?0.0", "?\u0660", "?18446744073709551616", "?9223372036854775808", "?-9223372036854775808", "?4294967296", "\x000", "#0", "?\xff"} {
		refuses(t, api.Expr{bare(api.OpVar, 0, name)}, 30)
	}
	for count := range 12 {
		for k := range 14 {
			e := v("?" + strconv.Itoa(k)).ordered()
			if k >= count {
				refuses(t, e, count)
				continue
			}
			worth(t, e, slices.Repeat([]bool{true}, count), true)
			makes(t, opens(t, count, 3), e, count, func(at []bool) bool { return at[k] })
		}
	}
}

func TestNoExpressions(t *testing.T) {
	x := bare(api.OpVar, 0, "?0")
	for _, e := range []api.Expr{
		nil, {}, {x, x}, {bare(api.OpNot, 0, "")}, {x, bare(api.OpNot, 0, "")}, {x, {Op: api.OpNot, A: 1, B: -1, C: -1}}, {{Op: api.OpNot, A: 0, B: -1, C: -1}},
		{x, {Op: api.OpNot, A: 0, B: -1, C: -1}, {Op: api.OpAnd, A: 0, B: 1, C: -1}}, {x, {Op: api.OpAnd, A: 0, B: 0, C: -1}}, {x, x, {Op: api.OpAnd, A: 0, B: 1, C: 0}}, {x, x, {Op: api.OpIf, A: 0, B: 1, C: -1}},
		{bare(api.OpBool, 2, "")}, {bare(api.OpBool, -1, "")}, {bare(api.OpBool, 1, "?0")}, {bare(api.OpVar, 1, "?0")}, {bare(api.OpVar, 0, "")}, {bare(0, 0, "")}, {bare(29, 0, "")}, {bare(-4, 0, "")}, {bare(math.MaxInt, 0, "")}, {bare(math.MinInt, 0, "")},
		{{Op: api.OpVar, Name: "?0"}}, {x, {Op: api.OpNot, A: math.MinInt, B: -1, C: -1}}, {x, {Op: api.OpNot, A: math.MaxInt, B: -1, C: -1}},
	} {
		refuses(t, e, 2)
	}
	// Too deep, and too long.
	deep := v("?0")
	for range 39 {
		deep = op(api.OpNot, deep)
	}
	worth(t, deep.ordered(), []bool{true}, false)
	makes(t, opens(t, 1, 4), deep.ordered(), 1, func(at []bool) bool { return !at[0] })
	refuses(t, op(api.OpNot, deep).ordered(), 1)
	var half func(n int) *term
	half = func(n int) *term {
		if n == 1 {
			return v("?0")
		}
		return op(api.OpXor, half(n/2), half(n-n/2))
	}
	worth(t, half(2500).ordered(), []bool{true}, false)
	worth(t, op(api.OpNot, half(2500)).ordered(), []bool{true}, true)
	refuses(t, half(2501).ordered(), 1)
}

// All other operators are refused, wherever they stand, even where the value
// does not hang on them.
func TestOtherOperators(t *testing.T) {
	others := []*term{{op: api.OpNum}, {op: api.OpNum, n: 1}, call("f"), call("f", v("?0")), call("?0"), call("?0", v("?0"), v("?1"))}
	for _, o := range ones[1:] {
		others = append(others, op(o, v("?0")))
	}
	for _, o := range twos[4:] {
		others = append(others, op(o, v("?0"), v("?1")))
	}
	for _, x := range others {
		refuses(t, x.ordered(), 2)
		refuses(t, op(api.OpAnd, truth(0), x).ordered(), 2)
		refuses(t, op(api.OpOr, v("?0"), x).ordered(), 2)
		refuses(t, op(api.OpIf, truth(1), v("?1"), x).ordered(), 2)
		refuses(t, op(api.OpImp, op(api.OpNot, x), truth(1)).ordered(), 2)
	}
}

// A store that is nil, or was not made, is none; one that is full still tells
// that there is no such variable.
func TestMakeErrors(t *testing.T) {
	for _, e := range []api.Expr{truth(1).ordered(), truth(0).ordered(), v("?0").ordered(), nil} {
		for _, s := range []*bdd.Store{nil, {}} {
			if f, fault := atoms.Make(s, e); f != 0 || fault != api.ErrArg {
				t.Errorf("P21.2: %v: %d, %d", e, f, fault)
			}
		}
	}
	s := opens(t, 3, 2)
	for i, c := range []struct {
		e    *term
		want api.Errno
		f    int
	}{
		{truth(0), api.OK, 0}, {truth(1), api.OK, 1}, {op(api.OpNot, truth(1)), api.OK, 0}, {op(api.OpXor, truth(1), truth(0)), api.OK, 1}, {op(api.OpIf, truth(1), truth(0), truth(1)), api.OK, 0},
		{v("?0"), api.ErrBudget, 0}, {v("?2"), api.ErrBudget, 0}, {v("?3"), api.ErrArg, 0}, {op(api.OpAnd, v("?0"), v("?3")), api.ErrArg, 0}, {op(api.OpAnd, v("?0"), call("f")), api.ErrArg, 0}, {op(api.OpNot, v("?0")), api.ErrBudget, 0},
	} {
		if f, fault := atoms.Make(s, c.e.ordered()); f != c.f || fault != c.want || s.Size() != 2 {
			t.Errorf("P21.2: case %d: %d, %d, %d nodes", i, f, fault, s.Size())
		}
	}
	// What does not go in leaves what there was as it is.
	s = opens(t, 3, 5)
	a := makes(t, s, v("?0").ordered(), 3, func(at []bool) bool { return at[0] })
	both := makes(t, s, op(api.OpAnd, v("?1"), v("?0")).ordered(), 3, func(at []bool) bool { return at[0] && at[1] })
	for _, x := range []*term{op(api.OpXor, v("?0"), v("?1")), op(api.OpNot, v("?0")), v("?2"), op(api.OpIf, v("?0"), truth(0), v("?1"))} {
		if f, fault := atoms.Make(s, x.ordered()); f != 0 || fault != api.ErrBudget {
			t.Errorf("P21.2: %v: %d, %d", x.ordered(), f, fault)
		}
	}
	if f := makes(t, s, v("?0").ordered(), 3, func(at []bool) bool { return at[0] }); f != a {
		t.Errorf("P21.2: %d, not %d", f, a)
	}
	if f := makes(t, s, op(api.OpAnd, v("?0"), v("?1")).ordered(), 3, func(at []bool) bool { return at[0] && at[1] }); f != both {
		t.Errorf("P21.2: %d, not %d", f, both)
	}
}

// A function that a store has already is told by the same node.
func TestMakeSame(t *testing.T) {
	s := opens(t, 30, 10000)
	a, _ := s.Var(3)
	b, _ := s.Var(29)
	l := []*term{v("?3"), v("?29")}
	and, _ := s.And(a, b)
	or, _ := s.Or(a, b)
	not, _ := s.Not(b)
	xor, _ := s.Ite(a, not, b)
	size := s.Size()
	for o, want := range map[int]int{api.OpAnd: and, api.OpOr: or, api.OpXor: xor} {
		if f, fault := atoms.Make(s, op(o, l...).ordered()); f != want || fault != api.OK {
			t.Errorf("P21.2: operator %d: %d, %d, not %d", o, f, fault, want)
		}
	}
	if f, fault := atoms.Make(s, op(api.OpNot, v("?29")).ordered()); f != not || fault != api.OK || s.Size() != size {
		t.Errorf("P21.2: %d, %d, %d nodes", f, fault, s.Size())
	}
	if f, fault := atoms.Make(s, op(api.OpOr, op(api.OpNot, l[0]), l[0]).ordered()); f != 1 || fault != api.OK {
		t.Errorf("P21.2: %d, %d", f, fault)
	}
}

func TestMakeMany(t *testing.T) {
	r := rand.New(rand.NewSource(212))
	seen := map[api.Errno]int{}
	for n := range 6000 {
		count := r.Intn(6)
		s := opens(t, count, []int{10000, 2 + r.Intn(30)}[n%2])
		for range 1 + r.Intn(3) {
			x := over(r, 1+r.Intn(6), count)
			e := shuffled(r, x.ordered())
			for _, at := range points(count) {
				worth(t, e, at, x.holds(at))
			}
			if f, fault := atoms.Make(s, e); fault != api.OK {
				if n%2 == 0 || f != 0 || fault != api.ErrBudget {
					t.Fatalf("P21.2: %v: %d, %d", e, f, fault)
				}
				seen[fault]++
				continue
			}
			makes(t, s, e, count, x.holds)
			seen[api.OK]++
		}
	}
	if seen[api.OK] < 5000 || seen[api.ErrBudget] < 500 {
		t.Error(seen)
	}
}

// typed is a term of a type, from the beginning on, that tells no error.
func typed(r *rand.Rand, deep, kind int) *term {
	of := func(kind int) *term { return typed(r, deep-1, kind) }
	if deep <= 1 {
		if kind == api.Int {
			return []*term{v("x"), v("y"), {op: api.OpNum, n: r.Intn(3)}}[r.Intn(3)]
		}
		return []*term{v("b"), v("c"), truth(r.Intn(2))}[r.Intn(3)]
	}
	if kind == api.Int {
		switch r.Intn(4) {
		case 0:
			return op(api.OpIf, of(api.Bool), of(kind), of(kind))
		case 1:
			return op(api.OpArrow, of(kind), op(api.OpPre, of(kind)))
		}
		return op([]int{api.OpAdd, api.OpSub}[r.Intn(2)], of(kind), of(kind))
	}
	switch r.Intn(9) {
	case 0:
		return op([]int{api.OpOnce, api.OpHist, api.OpPrev}[r.Intn(3)], of(kind))
	case 1:
		return &term{op: api.OpWithin, n: r.Intn(3), kids: []*term{of(kind)}}
	case 2:
		return op([]int{api.OpSince, api.OpEq, api.OpNe}[r.Intn(3)], of(kind), of(kind))
	case 3:
		return op([]int{api.OpLt, api.OpLe, api.OpEq, api.OpNe}[r.Intn(4)], of(api.Int), of(api.Int))
	case 4:
		return op(api.OpArrow, of(kind), op(api.OpPre, of(kind)))
	case 5:
		return op(api.OpIf, of(kind), of(kind), of(kind))
	case 6:
		return op(api.OpNot, of(kind))
	}
	return op([]int{api.OpAnd, api.OpOr, api.OpXor, api.OpImp}[r.Intn(4)], of(kind), of(kind))
}

// Of atoms as they are at an instant, an expression over them is what it is then.
func TestInstants(t *testing.T) {
	r := rand.New(rand.NewSource(213))
	seen := map[bool]int{}
	for range 1500 {
		var l []api.Expr
		for range 1 + r.Intn(3) {
			l = append(l, typed(r, 1+r.Intn(6), api.Bool).ordered())
		}
		found, over, fault := atoms.Split(l)
		if fault == api.ErrMany {
			continue
		}
		streams := []api.Stream{{Name: "x", Type: api.Int}, {Name: "y", Type: api.Int}, {Name: "b", Type: api.Bool}, {Name: "c", Type: api.Bool}}
		for i, e := range slices.Concat(found, l) {
			streams = append(streams, api.Stream{Name: "s" + strconv.Itoa(i), Type: api.Bool, E: e})
		}
		var in [][]int
		for range 12 {
			in = append(in, []int{r.Intn(5) - 2, r.Intn(3), r.Intn(2), r.Intn(2)})
		}
		rows, fault := flat.Run(streams, in)
		if fault != api.OK || len(rows) != 12 {
			t.Fatalf("P12.3: %v: %d", l, fault)
		}
		s := opens(t, len(found), 10000)
		for i, e := range over {
			f, fault := atoms.Make(s, e)
			if fault != api.OK && fault != api.ErrBudget {
				t.Fatalf("P21.2: %v: %d", e, fault)
			}
			for _, row := range rows {
				var at []bool
				for _, n := range row[4 : 4+len(found)] {
					at = append(at, n == 1)
				}
				is := row[4+len(found)+i] == 1
				seen[is]++
				worth(t, e, at, is)
				if b, _ := s.Value(f, at); fault == api.OK && b != is {
					t.Fatalf("P21.3: %v at %v: %v", l[i], row, b)
				}
			}
		}
	}
	if seen[true] < 5000 || seen[false] < 5000 {
		t.Error(seen)
	}
}

// Nothing that is handed in makes a call panic.
func TestAnything(t *testing.T) {
	r := rand.New(rand.NewSource(214))
	draw := func() int {
		return []int{-1, -1, 0, 0, 1, 2, r.Intn(32), math.MinInt, math.MaxInt}[r.Intn(9)]
	}
	stores := []*bdd.Store{nil, {}, opens(t, 0, 2), opens(t, 2, 5), opens(t, 30, 10000)}
	seen := map[api.Errno]int{}
	for range 200000 {
		var e api.Expr
		for i := range r.Intn(4) {
			n := bare(connectives[r.Intn(7)], 0, "")
			switch r.Intn(4) {
			case 0:
				n = api.Node{Op: draw(), A: draw(), B: draw(), C: draw(), N: draw(), Name: []string{"", "?0", "a"}[r.Intn(3)]}
			case 1:
				n.A, n.B = i-1, []int{-1, i - 2}[r.Intn(2)]
			case 2:
				n = bare(api.OpVar, 0, "?"+strconv.Itoa(r.Intn(3)))
			}
			e = append(e, n)
		}
		a, o, fault := atoms.Split([]api.Expr{e})
		seen[fault]++
		if (fault == api.OK) != (len(o) == 1) || fault != api.OK && a != nil {
			t.Fatalf("P21.1: %v: %v, %v, %d", e, a, o, fault)
		}
		at := make([]bool, r.Intn(3))
		if b, f := atoms.Value(e, at); fault != api.OK && (b || f != api.ErrArg) {
			t.Fatalf("P21.2: %v: %v, %d", e, b, f)
		}
		s := stores[r.Intn(len(stores))]
		size := s.Size()
		if f, k := atoms.Make(s, e); fault != api.OK && (f != 0 || k != api.ErrArg) || k != api.OK && f != 0 || k == api.ErrArg && s.Size() != size {
			t.Fatalf("P21.2: %v: %d, %d", e, f, k)
		}
	}
	if seen[api.OK] < 10000 || seen[api.ErrArg] < 10000 {
		t.Error(seen)
	}
}
