package inits_test

import (
	"fmt"
	"math/rand"
	"slices"
	"testing"

	"bailment/api"
	"bailment/inits"
	"bailment/tree"
)

// said is what the chapter says, told in another way: up from each Pre, until
// something takes what is from 1 on, or must not.
func said(e api.Expr) (int, api.Errno) {
	above := make([]int, len(e))
	for i, n := range e {
		for _, k := range tree.Kids(n) {
			above[k] = i
		}
	}
	last := 0
	for i, n := range e {
		if n.Op != api.OpPre {
			continue
		}
		at, taken := i, false
		for at < len(e)-1 && !taken {
			up := e[above[at]]
			if slices.Contains(needs, up.Op) || up.Op == api.OpArrow && up.A == at {
				return 0, api.ErrInit
			}
			at, taken = above[at], up.Op == api.OpArrow
		}
		if !taken {
			last = 1
		}
	}
	return last, api.OK
}

// some is an expression; what is from 1 on stands behind an Arrow most times.
func some(r *rand.Rand, deep int) api.Expr {
	if deep <= 1 || r.Intn(6) == 0 {
		return v(string(rune('a' + r.Intn(3))))
	}
	parts := func(count int) []api.Expr {
		var l []api.Expr
		for range count {
			l = append(l, some(r, deep-1))
		}
		return l
	}
	switch r.Intn(9) {
	case 0, 1:
		return op(api.OpArrow, some(r, deep-1), op(api.OpPre, some(r, deep-2)))
	case 2:
		return op(api.OpArrow, parts(2)...)
	case 3:
		o := needs[r.Intn(len(needs))]
		if o != api.OpCall {
			return op(o, parts(counts(o)[0])...)
		}
		deep -= 3
		return call(parts(r.Intn(4))...)
	case 4:
		return op(api.OpPre, v("a"))
	}
	o := passes[r.Intn(len(passes))]
	return op(o, parts(counts(o)[0])...)
}

// shuffled is an expression whose nodes stand in another order, operands ahead.
func shuffled(r *rand.Rand, e api.Expr) api.Expr {
	var out api.Expr
	to := map[int]int{-1: -1}
	for len(out) < len(e) {
		i := r.Intn(len(e))
		n := e[i]
		_, put := to[i]
		a, okA := to[n.A]
		b, okB := to[n.B]
		c, okC := to[n.C]
		if put || !okA || !okB || !okC {
			continue
		}
		n.A, n.B, n.C = a, b, c
		to[i] = len(out)
		out = append(out, n)
	}
	return out
}

// follows tells what is so of all expressions.
func follows(t *testing.T, e api.Expr) {
	t.Helper()
	from, fault := inits.Of(e)
	behind := op(api.OpArrow, v("a"), e)
	if x, f := inits.Of(behind); tree.May(behind) && (x != 0 || f != fault) {
		t.Fatalf("P10.3: %v behind an Arrow: %d, %d", e, x, f)
	}
	pre := slices.ContainsFunc(e, func(n api.Node) bool { return n.Op == api.OpPre })
	if !pre && (from != 0 || fault != api.OK) {
		t.Fatalf("P10.3: %v without Pre: %d, %d", e, from, fault)
	}
	if x, f := inits.Of(tree.Sub(e, len(e)-1)); x != from || f != fault {
		t.Fatalf("P10.1: %v in order: %d, %d", e, x, f)
	}
}

func TestManyExpressions(t *testing.T) {
	r := rand.New(rand.NewSource(10))
	seen := map[[2]int]int{}
	for range 40000 {
		e := shuffled(r, some(r, 2+r.Intn(5)))
		want, fault := said(e)
		kept := slices.Clone(e)
		is(t, e, want, fault)
		if !slices.Equal(e, kept) {
			t.Fatalf("R5: %v is changed", kept)
		}
		follows(t, e)
		seen[[2]int{want, int(fault)}]++
	}
	for _, what := range [][2]int{{0, 0}, {1, 0}, {0, int(api.ErrInit)}} {
		if seen[what] < 2000 {
			t.Errorf("%v: seen %d times", what, seen[what])
		}
	}
}

// A program's fault is the first one of its expressions, put in a list.
func TestManyPrograms(t *testing.T) {
	r := rand.New(rand.NewSource(11))
	seen := map[api.Fault]int{}
	for range 20000 {
		var p api.Prog
		want := api.Fault{}
		note := func(e api.Expr) api.Expr {
			from, fault := said(e)
			if fault == api.OK && from == 1 {
				fault = api.ErrInit
			}
			if want.Code == api.OK && fault != api.OK {
				want = api.Fault{Code: fault, At: len(p.Units)}
			}
			return e
		}
		for range r.Intn(4) {
			u := api.Unit{Contract: r.Intn(2) == 0}
			for range r.Intn(3) {
				u.Eqs = append(u.Eqs, api.Equation{E: note(some(r, 3))})
			}
			for range r.Intn(3) {
				i := api.Item{Kind: r.Intn(6), E: note(some(r, 3))}
				if r.Intn(2) == 0 {
					i.F = note(some(r, 3))
				}
				for range r.Intn(3) {
					i.Args = append(i.Args, note(some(r, 3)))
				}
				u.Items = append(u.Items, i)
			}
			p.Units = append(p.Units, u)
		}
		seen[want]++
		kept := fmt.Sprint(p)
		checks(t, kept, p, want)
		if fmt.Sprint(p) != kept {
			t.Fatalf("R5: %s is changed", kept)
		}
		if t.Failed() {
			return
		}
	}
	for _, what := range []api.Fault{{}, {Code: api.ErrInit}, {Code: api.ErrInit, At: 1}, {Code: api.ErrInit, At: 2}} {
		if seen[what] < 200 {
			t.Errorf("%v: seen %d times", what, seen[what])
		}
	}
}
