package atoms_test

import (
	"fmt"
	"math/rand"
	"slices"
	"strconv"
	"testing"

	"bailment/api"
	"bailment/atoms"
	"bailment/show"
	"bailment/tree"
)

// splits tells what expressions are split into: twice, since what is answered
// is nobody else's memory.
func splits(t *testing.T, l []api.Expr, wantAtoms, wantOver []api.Expr) {
	t.Helper()
	before := fmt.Sprint(l)
	for range 2 {
		a, o, e := atoms.Split(l)
		if e != api.OK || fmt.Sprint(a) != fmt.Sprint(wantAtoms) || fmt.Sprint(o) != fmt.Sprint(wantOver) {
			t.Fatalf("P21.1: %s: %v, %v, %d, not %v, %v", before, a, o, e, wantAtoms, wantOver)
		}
		for i, x := range slices.Concat(a, o) {
			if fmt.Sprint(x) != fmt.Sprint(slices.Concat(wantAtoms, wantOver)[i]) {
				t.Fatalf("R5: %s: list %d has its memory from another one", before, i)
			}
			spoil(x, api.Node{Op: -9})
		}
		spoil(a, nil)
		spoil(o, nil)
	}
	if fmt.Sprint(l) != before {
		t.Fatalf("R5: %s is changed", before)
	}
}

func splitsNot(t *testing.T, l []api.Expr, want api.Errno) {
	t.Helper()
	if a, o, e := atoms.Split(l); e != want || a != nil || o != nil {
		t.Errorf("P21.1: %.300s: %v, %v, %d, not %d", fmt.Sprint(l), a, o, e, want)
	}
}

func TestSplitByHand(t *testing.T) {
	for i, c := range []struct{ l, atoms, over []string }{
		{nil, nil, nil},
		// The chapter's example.
		{[]string{"a < 1 and not b"}, []string{"a < 1", "b"}, []string{"?0 ?1 not and"}},
		// All that is cut, and nothing else is.
		{[]string{"if a or b then a xor true else not (b => false)"}, []string{"a", "b"}, []string{"?0 ?1 or ?0 true xor ?1 false => not if"}},
		{[]string{"7"}, []string{"7"}, []string{"?0"}},
		{[]string{"true"}, nil, []string{"true"}},
		{[]string{"a = b", "a <> b", "a < b", "a <= b", "a > b"}, []string{"a = b", "a <> b", "a < b", "a <= b", "b < a"}, []string{"?0", "?1", "?2", "?3", "?4"}},
		{[]string{"a + b", "a - b", "a * b", "a div b", "a mod b", "- a"}, []string{"a + b", "a - b", "a * b", "a div b", "a mod b", "- a"}, []string{"?0", "?1", "?2", "?3", "?4", "?5"}},
		{[]string{"a -> b", "a since b", "pre a", "once a", "hist a", "prev a", "within 2 a"}, []string{"a -> b", "a since b", "pre a", "once a", "hist a", "prev a", "within 2 a"}, []string{"?0", "?1", "?2", "?3", "?4", "?5", "?6"}},
		{[]string{"f()", "f(a, b and c)", "not f(f(a))"}, []string{"f ( )", "f ( a , b and c )", "f ( f ( a ) )"}, []string{"?0", "?1", "?2 not"}},
		// What stands in an atom is not cut, nor are its parts atoms.
		{[]string{"(a and b) = (not c)", "pre (a or b) and a"}, []string{"( a and b ) = not c", "pre ( a or b )", "a"}, []string{"?0", "?1 ?2 and"}},
		// Atoms are numbered as they are come to, each once, over all expressions.
		{[]string{"b", "a or b", "c and (a or b)"}, []string{"b", "a", "c"}, []string{"?0", "?1 ?0 or", "?2 ?1 ?0 or and"}},
		{[]string{"(a and b) or (c and a)"}, []string{"a", "b", "c"}, []string{"?0 ?1 and ?2 ?0 and or"}},
		// Two are one just if they are the same: not if they say the same.
		{[]string{"a = b or b = a", "within 1 a or within 2 a", "within 1 a", "a < 1 or a < 2 or b < 1", "f(a) or g(a) or f(a, a)"}, []string{"a = b", "b = a", "within 1 a", "within 2 a", "a < 1", "a < 2", "b < 1", "f ( a )", "g ( a )", "f ( a , a )"}, []string{"?0 ?1 or", "?2 ?3 or", "?2", "?4 ?5 or ?6 or", "?7 ?8 or ?9 or"}},
	} {
		var l []api.Expr
		for _, s := range c.l {
			l = append(l, read(t, s))
		}
		a, o, e := atoms.Split(l)
		var gotAtoms, gotOver []string
		for _, x := range a {
			gotAtoms = append(gotAtoms, show.Show(x))
		}
		for _, x := range o {
			gotOver = append(gotOver, text(x))
		}
		if e != api.OK || !slices.Equal(gotAtoms, c.atoms) || !slices.Equal(gotOver, c.over) {
			t.Errorf("P21.1: case %d: %q, %q, %d", i, gotAtoms, gotOver, e)
		}
		splits(t, l, a, o)
	}
}

// A Var ?k of what is split is a stream like another one.
func TestSplitMarks(t *testing.T) {
	x := func(name string) api.Expr { return api.Expr{bare(api.OpVar, 0, name)} }
	splits(t, []api.Expr{x("?1"), x("?0"), x("?7"), x("?1")}, []api.Expr{x("?1"), x("?0"), x("?7")}, []api.Expr{x("?0"), x("?1"), x("?2"), x("?0")})
}

// Expressions whose nodes stand in another order are the same.
func TestSplitOrder(t *testing.T) {
	a, b := bare(api.OpVar, 0, "a"), bare(api.OpVar, 0, "b")
	less := api.Expr{b, a, {Op: api.OpLt, A: 1, B: 0, C: -1}}
	whole := api.Expr{b, b, a, a, {Op: api.OpLt, A: 2, B: 1, C: -1}, {Op: api.OpLt, A: 3, B: 0, C: -1}, {Op: api.OpAnd, A: 5, B: 4, C: -1}}
	atom := api.Expr{a, b, {Op: api.OpLt, A: 0, B: 1, C: -1}}
	x := bare(api.OpVar, 0, "?0")
	splits(t, []api.Expr{less, whole}, []api.Expr{atom}, []api.Expr{{x}, {x, x, {Op: api.OpAnd, A: 0, B: 1, C: -1}}})
	// Operands in another order are come to in that one.
	swapped := api.Expr{b, a, {Op: api.OpImp, A: 1, B: 0, C: -1}}
	y := bare(api.OpVar, 0, "?1")
	splits(t, []api.Expr{swapped}, []api.Expr{{a}, {b}}, []api.Expr{{x, y, {Op: api.OpImp, A: 0, B: 1, C: -1}}})
}

// below is an atom of so many.
func below(k int) *term { return op(api.OpLt, v("a"), &term{op: api.OpNum, n: k}) }

func TestSplitErrors(t *testing.T) {
	var l []api.Expr
	for k := range 30 {
		l = append(l, op(api.OpNot, below(k)).ordered())
	}
	a, o, e := atoms.Split(l)
	if len(a) != 30 || len(o) != 30 || e != api.OK || text(o[29]) != "?29 not" {
		t.Errorf("P21.1: 30 atoms: %d, %d, %d", len(a), len(o), e)
	}
	again := slices.Concat(l, l, []api.Expr{truth(1).ordered()}, l)
	if a, o, e := atoms.Split(again); len(a) != 30 || len(o) != 91 || e != api.OK {
		t.Errorf("P21.1: 30 atoms, told again: %d, %d, %d", len(a), len(o), e)
	}
	splitsNot(t, append(slices.Clone(l), v("b").ordered()), api.ErrMany)
	splitsNot(t, append([]api.Expr{v("b").ordered()}, l...), api.ErrMany)
	wide := v("b")
	for k := range 30 {
		wide = op(api.OpOr, wide, below(k))
	}
	splitsNot(t, []api.Expr{wide.ordered()}, api.ErrMany)
	for i, bad := range []api.Expr{nil, {}, {bare(api.OpVar, 0, "")}, {bare(29, 0, "")}, {bare(api.OpNot, 0, "")}, {bare(api.OpBool, 2, "")}, {bare(api.OpVar, 0, "a"), bare(api.OpVar, 0, "b")}, {bare(api.OpVar, 0, "a"), {Op: api.OpArgs, A: 0, B: -1, C: -1}}} {
		if tree.May(bad) {
			t.Fatalf("case %d may be", i)
		}
		splitsNot(t, []api.Expr{bad}, api.ErrArg)
		splitsNot(t, []api.Expr{v("a").ordered(), bad}, api.ErrArg)
		splitsNot(t, []api.Expr{bad, v("a").ordered()}, api.ErrArg)
		// ErrArg comes ahead of ErrMany, wherever it is.
		splitsNot(t, []api.Expr{wide.ordered(), bad}, api.ErrArg)
		splitsNot(t, slices.Concat(l, []api.Expr{v("b").ordered(), v("c").ordered(), bad}), api.ErrArg)
	}
}

func TestSplitLimits(t *testing.T) {
	deep := v("a")
	for range 39 {
		deep = op(api.OpNot, deep)
	}
	splits(t, []api.Expr{deep.ordered()}, []api.Expr{v("a").ordered()}, []api.Expr{deep.cut(&[]*term{}).ordered()})
	splitsNot(t, []api.Expr{op(api.OpNot, deep).ordered()}, api.ErrArg)
	inside := op(api.OpPre, v("a"))
	for range 38 {
		inside = op(api.OpPre, inside)
	}
	splits(t, []api.Expr{inside.ordered()}, []api.Expr{inside.ordered()}, []api.Expr{v("?0").ordered()})
	// As many as there may be, of as many nodes: each atom is asked for at once.
	var half func(n int) *term
	half = func(n int) *term {
		if n == 1 {
			return op(api.OpPre, below(3))
		}
		return op(api.OpAnd, half(n/2), half(n-n/2))
	}
	whole := half(1000)
	e := whole.ordered()
	if len(e) != 4999 {
		t.Fatal(len(e))
	}
	var l []api.Expr
	for range 100 {
		l = append(l, e)
	}
	a, o, f := atoms.Split(l)
	if f != api.OK || len(a) != 1 || len(o) != 100 || len(o[99]) != 1999 || !slices.Equal(a[0], op(api.OpPre, below(3)).ordered()) {
		t.Errorf("P21.1: %d, %d, %d", len(a), len(o), f)
	}
}

func TestSplitMany(t *testing.T) {
	r := rand.New(rand.NewSource(211))
	seen := map[string]int{}
	for n := range 2000 {
		var l, want, wantOver []api.Expr
		var found []*term
		for range r.Intn([]int{4, 4, 4, 30}[n%4]) {
			x := some(r, 1+r.Intn(8))
			e := x.ordered()
			if r.Intn(2) == 0 {
				e = shuffled(r, e)
			}
			l = append(l, e)
			wantOver = append(wantOver, x.cut(&found).ordered())
		}
		for _, a := range found {
			want = append(want, a.ordered())
			seen[strconv.Itoa(a.op)]++
		}
		if len(found) > 30 {
			seen["many"]++
			splitsNot(t, l, api.ErrMany)
			continue
		}
		splits(t, l, want, wantOver)
		for i, e := range l {
			// What is cut is whole again with its atoms in their places.
			var names []string
			for k := range want {
				names = append(names, "?"+strconv.Itoa(k))
			}
			if whole := tree.Put(wantOver[i], names, want); !slices.Equal(whole, tree.Sub(e, len(e)-1)) {
				t.Fatalf("P21.1: %v: %v", e, whole)
			}
		}
	}
	for n := api.OpNum; n < api.OpArgs; n++ {
		if is := slices.Contains(connectives, n); (seen[strconv.Itoa(n)] == 0) != is {
			t.Errorf("operator %d: %d atoms", n, seen[strconv.Itoa(n)])
		}
	}
	if seen["many"] < 20 {
		t.Error(seen)
	}
}
