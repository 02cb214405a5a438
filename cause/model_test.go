package cause_test

import (
	"fmt"
	"math/rand"
	"slices"
	"strings"
	"testing"

	"bailment/api"
	"bailment/cause"
	"bailment/tree"
)

// needed is what P11.1 says, told in another way: down from the last node, and
// not on at a Pre or a Prev.
func needed(e api.Expr) []string {
	var l []string
	var down func(i int)
	down = func(i int) {
		if e[i].Op == api.OpVar && !slices.Contains(l, e[i].Name) {
			l = append(l, e[i].Name)
		}
		if e[i].Op == api.OpPre || e[i].Op == api.OpPrev {
			return
		}
		for _, k := range tree.Kids(e[i]) {
			down(k)
		}
	}
	down(len(e) - 1)
	return l
}

// taken is what P11.2 says, word by word.
func taken(l []api.Equation) ([]int, api.Errno) {
	var order []int
	may := func(i int) bool {
		for _, name := range needed(l[i].E) {
			for k, q := range l {
				if q.Name == name && !slices.Contains(order, k) {
					return false
				}
			}
		}
		return !slices.Contains(order, i)
	}
	for range l {
		i := 0
		for i < len(l) && !may(i) {
			i++
		}
		if i == len(l) {
			return nil, api.ErrCycle
		}
		order = append(order, i)
	}
	return order, api.OK
}

// some is an expression of some streams.
func some(r *rand.Rand, names []string, deep int) api.Expr {
	if deep <= 1 || r.Intn(5) == 0 {
		if r.Intn(5) == 0 {
			return tree.Join(api.OpNum, r.Intn(5), "")
		}
		return v(names[r.Intn(len(names))])
	}
	if r.Intn(6) == 0 {
		var args []api.Expr
		for range r.Intn(4) {
			args = append(args, some(r, names, deep-1))
		}
		return call(names[r.Intn(len(names))], args...)
	}
	o := api.OpNot + r.Intn(api.OpIf-api.OpNot+1)
	if r.Intn(3) == 0 {
		o = []int{api.OpPre, api.OpPrev}[r.Intn(2)]
	}
	var parts []api.Expr
	for range tree.Kids(api.Node{Op: o}) {
		parts = append(parts, some(r, names, deep-1))
	}
	return op(o, parts...)
}

// shuffled is an expression whose nodes stand in another order, operands ahead.
func shuffled(r *rand.Rand, e api.Expr) api.Expr {
	var out api.Expr
	to := map[int]int{-1: -1}
	for len(out) < len(e) {
		i := r.Intn(len(e))
		n := e[i]
		_, put := to[i]
		a, okA := to[n.A]
		b, okB := to[n.B]
		c, okC := to[n.C]
		if put || !okA || !okB || !okC {
			continue
		}
		n.A, n.B, n.C = a, b, c
		to[i] = len(out)
		out = append(out, n)
	}
	return out
}

func TestManyExpressions(t *testing.T) {
	r := rand.New(rand.NewSource(7))
	seen := map[int]int{}
	for range 30000 {
		e := shuffled(r, some(r, strings.Fields("a b c d"), 2+r.Intn(5)))
		want := needed(e)
		needs(t, e, want...)
		needs(t, tree.Sub(e, len(e)-1), want...)
		if t.Failed() {
			return
		}
		seen[len(want)]++
	}
	for n := range 5 {
		if seen[n] < 300 {
			t.Errorf("%d needs: seen %d times", n, seen[n])
		}
	}
}

// follows is what P11.4 says: each equation stands behind those it needs.
func follows(t *testing.T, l []api.Equation, order []int) {
	t.Helper()
	at := make([]int, len(l))
	for k, i := range order {
		at[i] = k
	}
	for i, q := range l {
		for k, x := range l {
			if slices.Contains(cause.Needs(q.E), x.Name) && at[k] >= at[i] {
				t.Fatalf("P11.4: %v: %v: %d ahead of %d", l, order, i, k)
			}
		}
	}
	if sorted := slices.Sorted(slices.Values(order)); len(sorted) != len(l) || len(slices.Compact(sorted)) != len(l) {
		t.Fatalf("P11.4: %v: %v", l, order)
	}
}

func TestManyLists(t *testing.T) {
	r := rand.New(rand.NewSource(8))
	seen := map[api.Errno]int{}
	straight, twice := 0, 0
	for range 20000 {
		names := strings.Fields("a b c d e f g h z")
		var l []api.Equation
		for i := range r.Intn(9) {
			name := names[i]
			if r.Intn(12) == 0 {
				name = names[r.Intn(8)]
				twice++
			}
			l = append(l, api.Equation{Name: name, E: shuffled(r, some(r, names[r.Intn(7):], 1+r.Intn(3)))})
		}
		r.Shuffle(len(l), func(i, j int) { l[i], l[j] = l[j], l[i] })
		kept := fmt.Sprint(l)
		want, fault := taken(l)
		order(t, l, fault, want...)
		if fault == api.OK {
			follows(t, l, want)
		}
		if fmt.Sprint(l) != kept {
			t.Fatalf("R5: %s is changed", kept)
		}
		if t.Failed() {
			return
		}
		seen[fault]++
		if fault == api.OK && slices.IsSorted(want) {
			straight++
		}
	}
	if seen[api.OK] < 4000 || seen[api.ErrCycle] < 4000 || seen[api.OK]-straight < 1000 || twice < 1000 {
		t.Errorf("seen: %v, %d of them straight, %d names twice", seen, straight, twice)
	}
}

// sumOf needs all of some streams.
func sumOf(names []string) api.Expr {
	e := tree.Join(api.OpNum, 1, "")
	for _, name := range names {
		e = op(api.OpAdd, e, v(name))
	}
	return e
}

// All ways in which three equations, whose names may be the same, need each other:
// where any order holds, there is one.
func TestAllOfThree(t *testing.T) {
	names := strings.Fields("a b c")
	orders := [][]int{{0, 1, 2}, {0, 2, 1}, {1, 0, 2}, {1, 2, 0}, {2, 0, 1}, {2, 1, 0}}
	seen := map[api.Errno]int{}
	for way := range 27 * 512 {
		var l []api.Equation
		named, needs := way%27, way/27
		for range names {
			var of []string
			for i, name := range names {
				if needs>>i&1 == 1 {
					of = append(of, name)
				}
			}
			l = append(l, api.Equation{Name: names[named%3], E: sumOf(of)})
			named, needs = named/3, needs>>3
		}
		holds := slices.IndexFunc(orders, func(o []int) bool {
			for k, i := range o {
				for _, j := range o[k:] {
					if slices.Contains(cause.Needs(l[i].E), l[j].Name) {
						return false
					}
				}
			}
			return true
		})
		// The orders stand as numbers do: the first one that holds has the least number first.
		if holds < 0 {
			order(t, l, api.ErrCycle)
			seen[api.ErrCycle]++
		} else {
			order(t, l, api.OK, orders[holds]...)
			seen[api.OK]++
		}
		if t.Failed() {
			return
		}
	}
	if seen[api.OK] < 500 || seen[api.ErrCycle] < 5000 {
		t.Errorf("seen: %v", seen)
	}
}
