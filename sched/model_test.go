package sched_test

import (
	"fmt"
	"math"
	"math/rand"
	"slices"
	"testing"

	"bailment/api"
	"bailment/norm"
	"bailment/num"
	"bailment/sched"
)

// taken is what P15.1 says, word by word; not ok: it comes to no end.
func taken(n norm.Net) ([]int, bool) {
	var order []int
	may := func(i int) bool {
		x := n.Ops[i]
		for _, k := range []int{x.A, x.B, x.C} {
			if k >= 0 && x.Op != api.OpPre && !slices.Contains(order, k) {
				return false
			}
		}
		return !slices.Contains(order, i)
	}
	for range n.Ops {
		i := 0
		for i < len(n.Ops) && !may(i) {
			i++
		}
		if i == len(n.Ops) {
			return nil, false
		}
		order = append(order, i)
	}
	return order, true
}

// place is an operator at an instant.
type place struct{ op, instant int }

// telling is a net that is asked what its operators are, in whatever order.
type telling struct {
	norm.Net
	in    [][]int
	known map[place]int
	fault map[place]api.Errno
}

func (n *telling) value(i, t int) int {
	at := place{i, t}
	if x, ok := n.known[at]; ok {
		return x
	}
	x, f := n.reckoned(n.Ops[i], t)
	n.known[at], n.fault[at] = x, f
	return x
}

func (n *telling) reckoned(x norm.Op, t int) (int, api.Errno) {
	switch {
	case x.Op == api.OpVar:
		return n.in[t][x.N], api.OK
	case x.Op == api.OpNum || x.Op == api.OpBool:
		return x.N, api.OK
	case x.Op == api.OpPre && t == 0:
		return 0, api.OK
	case x.Op == api.OpPre:
		return n.value(x.A, t-1), api.OK
	case x.Op == api.OpArrow && t == 0:
		return n.value(x.A, t), api.OK
	case x.Op == api.OpArrow:
		return n.value(x.B, t), api.OK
	}
	var l [3]int
	for i, k := range []int{x.A, x.B, x.C}[:num.Operands(x.Op)] {
		l[i] = n.value(k, t)
	}
	return num.Do(x.Op, l[0], l[1], l[2])
}

// told is what roots are, up to the first instant at which an operator has an
// error; and the least one there.
func told(n norm.Net, in [][]int) ([][]int, api.Errno) {
	m := &telling{Net: n, in: in, known: map[place]int{}, fault: map[place]api.Errno{}}
	var rows [][]int
	for t := range in {
		var faults []api.Errno
		for i := range n.Ops {
			m.value(i, t)
			if f := m.fault[place{i, t}]; f != api.OK {
				faults = append(faults, f)
			}
		}
		if len(faults) > 0 {
			return rows, slices.Min(faults)
		}
		var row []int
		for _, k := range n.Roots {
			row = append(row, m.value(k, t))
		}
		rows = append(rows, row)
	}
	return rows, api.OK
}

// some is a net of operators that are drawn; most of them stand in no order.
func some(r *rand.Rand, size int) norm.Net {
	n := norm.Net{Inputs: make([]int, 1+r.Intn(2))}
	place := r.Perm(size)
	count := map[int]int{api.OpNot: 1, api.OpNeg: 1, api.OpPre: 1, api.OpIf: 3, api.OpVar: 0, api.OpNum: 0, api.OpBool: 0}
	n.Ops = make([]norm.Op, size)
	for i, at := range place {
		op := 1 + r.Intn(api.OpArrow)
		if r.Intn(3) == 0 {
			op = []int{api.OpPre, api.OpIf, api.OpArrow}[r.Intn(3)]
		}
		if i == 0 {
			op = api.OpVar
		}
		takes, known := count[op]
		if !known {
			takes = 2
		}
		// Operands are drawn from those ahead, so that few nets go round.
		var operands []int
		for range takes {
			k := r.Intn(max(i, 1))
			if op == api.OpPre || r.Intn(60) == 0 {
				k = r.Intn(size)
			}
			operands = append(operands, place[k])
		}
		number := 0
		switch op {
		case api.OpVar:
			number = r.Intn(len(n.Inputs))
		case api.OpNum:
			number = r.Intn(5) - 2
		case api.OpBool:
			number = r.Intn(2)
		}
		n.Ops[at] = o(op, number, operands...)
	}
	if size > 0 {
		for range r.Intn(5) {
			n.Roots = append(n.Roots, r.Intn(size))
		}
	}
	return n
}

func TestManyNets(t *testing.T) {
	r := rand.New(rand.NewSource(151))
	seen := map[api.Errno]int{}
	straight, round := 0, 0
	for range 40000 {
		n := some(r, r.Intn(14))
		want, ok := taken(n)
		if !ok {
			fails(t, "some", n, api.ErrCycle)
			round++
			continue
		}
		orders(t, "some", n, want...)
		if slices.IsSorted(want) {
			straight++
		}
		var in [][]int
		for range r.Intn(6) {
			in = append(in, []int{r.Intn(9) - 4, []int{0, 1, math.MaxInt32, math.MinInt32}[r.Intn(4)]})
		}
		m, _ := sched.Sort(n)
		before, f := told(n, in)
		after, g := told(m, in)
		if f != g || !slices.EqualFunc(before, after, slices.Equal) {
			t.Fatalf("P15.4: %v: %v, %d; sorted %v, %d", n, before, f, after, g)
		}
		seen[f]++
		if t.Failed() {
			return
		}
	}
	if seen[api.OK] < 10000 || seen[api.ErrOver] < 500 || seen[api.ErrZero] < 1000 || straight < 1000 || straight > 30000 || round < 1000 {
		t.Error(seen, straight, round)
	}
}

// All nets of three operators with two operands each, that may be Pre's instead.
func TestAllOfThree(t *testing.T) {
	permutations := [][]int{{0, 1, 2}, {0, 2, 1}, {1, 0, 2}, {1, 2, 0}, {2, 0, 1}, {2, 1, 0}}
	kinds := 11 // a number, a Pre, or an Add of two of three
	for way := range kinds * kinds * kinds {
		n := norm.Net{Roots: []int{2, 0, 1}}
		for k := way; len(n.Ops) < 3; k /= kinds {
			switch kind := k % kinds; kind {
			case 0:
				n.Ops = append(n.Ops, o(api.OpNum, len(n.Ops)))
			case 1:
				n.Ops = append(n.Ops, o(api.OpPre, 0, 2-len(n.Ops)))
			default:
				n.Ops = append(n.Ops, o(api.OpAdd, 0, (kind-2)/3, (kind-2)%3))
			}
		}
		// The orders stand as numbers do: the first one that holds has the least number first.
		holds := slices.IndexFunc(permutations, func(p []int) bool {
			for at, i := range p {
				x := n.Ops[i]
				if x.Op == api.OpAdd && (slices.Contains(p[at:], x.A) || slices.Contains(p[at:], x.B)) {
					return false
				}
			}
			return true
		})
		what := fmt.Sprint(way)
		if holds < 0 {
			fails(t, what, n, api.ErrCycle)
		} else {
			orders(t, what, n, permutations[holds]...)
		}
		if t.Failed() {
			return
		}
	}
}

// Nothing that is handed in makes a call panic; what norm.Check refuses is refused.
func TestAnything(t *testing.T) {
	r := rand.New(rand.NewSource(152))
	draw := func() int {
		return []int{-1, -1, -1, r.Intn(4), r.Intn(9) - 2, math.MinInt, math.MaxInt}[r.Intn(7)]
	}
	seen := map[api.Errno]int{}
	for range 100000 {
		var n norm.Net
		for range r.Intn(4) {
			n.Ops = append(n.Ops, norm.Op{Op: r.Intn(32) - 1, A: draw(), B: draw(), C: draw(), N: r.Intn(2) * draw()})
		}
		for range r.Intn(3) * r.Intn(2) {
			n.Roots = append(n.Roots, draw())
		}
		n.Inputs = make([]int, r.Intn(3))
		f := norm.Check(n)
		seen[f]++
		if f != api.OK {
			fails(t, "anything", n, f)
		} else if want, ok := taken(n); ok {
			orders(t, "anything", n, want...)
		} else {
			t.Fatalf("P15.1: %v", n)
		}
		if t.Failed() {
			return
		}
	}
	if seen[api.OK] < 10000 || seen[api.ErrArg] < 10000 {
		t.Error(seen)
	}
}
