package norm_test

import (
	"fmt"
	"math"
	"math/rand"
	"slices"
	"strings"
	"testing"

	"bailment/api"
	"bailment/flat"
	"bailment/norm"
	"bailment/num"
	"bailment/past"
	"bailment/tree"
)

// node is one of a stream.
type node struct{ stream, node int }

// said is what P14.2 says, told in another way: first which operator each node
// is, by counting; then what each one takes, back through Vars as long as there are any.
func said(l []api.Stream) norm.Net {
	var n norm.Net
	var row []node // operators, in order; behind those of the inputs
	for i, x := range l {
		if len(x.E) == 0 {
			n.Inputs = append(n.Inputs, x.Type)
			continue
		}
		for _, k := range below(x.E, len(x.E)-1) {
			if x.E[k].Op != api.OpVar {
				row = append(row, node{i, k})
			}
		}
	}
	var is func(at node) int
	is = func(at node) int {
		x := l[at.stream]
		switch {
		case len(x.E) == 0:
			return inputsAhead(l, at.stream)
		case x.E[at.node].Op == api.OpVar:
			to := flat.Find(l, x.E[at.node].Name)
			return is(node{to, len(l[to].E) - 1})
		}
		return len(n.Inputs) + slices.Index(row, at)
	}
	for i := range n.Inputs {
		n.Ops = append(n.Ops, o(api.OpVar, i))
	}
	for _, at := range row {
		x := l[at.stream].E[at.node]
		var operands []int
		for _, k := range tree.Kids(x) {
			operands = append(operands, is(node{at.stream, k}))
		}
		n.Ops = append(n.Ops, o(x.Op, x.N, operands...))
	}
	for i, x := range l {
		n.Roots = append(n.Roots, is(node{i, len(x.E) - 1}))
	}
	return n
}

// below are the numbers of a node and of all that are in it, in order.
func below(e api.Expr, i int) []int {
	var l []int
	for _, k := range tree.Kids(e[i]) {
		l = append(l, below(e, k)...)
	}
	return append(l, i)
}

func inputsAhead(l []api.Stream, i int) int {
	count := 0
	for _, x := range l[:i] {
		if len(x.E) == 0 {
			count++
		}
	}
	return count
}

// place is an operator at an instant.
type place struct{ op, instant int }

// telling is a net that is asked what its operators are.
type telling struct {
	norm.Net
	in    [][]int
	known map[place]int
	fault map[place]api.Errno
}

func (n *telling) value(i, t int) int {
	at := place{i, t}
	if x, ok := n.known[at]; ok {
		return x
	}
	x, f := n.reckoned(n.Ops[i], t)
	n.known[at], n.fault[at] = x, f
	return x
}

func (n *telling) reckoned(x norm.Op, t int) (int, api.Errno) {
	switch {
	case x.Op == api.OpVar:
		return n.in[t][x.N], api.OK
	case x.Op == api.OpNum || x.Op == api.OpBool:
		return x.N, api.OK
	case x.Op == api.OpPre && t == 0:
		return 0, api.OK
	case x.Op == api.OpPre:
		return n.value(x.A, t-1), api.OK
	case x.Op == api.OpArrow && t == 0:
		return n.value(x.A, t), api.OK
	case x.Op == api.OpArrow:
		return n.value(x.B, t), api.OK
	}
	var l [3]int
	for i, k := range []int{x.A, x.B, x.C}[:num.Operands(x.Op)] {
		l[i] = n.value(k, t)
	}
	return num.Do(x.Op, l[0], l[1], l[2])
}

// rows are what roots are, up to the first instant at which an operator has an
// error; and the least one there.
func (n *telling) rows() ([][]int, api.Errno) {
	var rows [][]int
	for t := range n.in {
		var faults []api.Errno
		for i := range n.Ops {
			n.value(i, t)
			if f := n.fault[place{i, t}]; f != api.OK {
				faults = append(faults, f)
			}
		}
		if len(faults) > 0 {
			return rows, slices.Min(faults)
		}
		var row []int
		for _, k := range n.Roots {
			row = append(row, n.value(k, t))
		}
		rows = append(rows, row)
	}
	return rows, api.OK
}

// somes makes expressions.
type somes struct {
	r     *rand.Rand
	names []string
	past  bool
}

func (s *somes) one(l ...int) int { return l[s.r.Intn(len(l))] }

func (s *somes) expr(deep int) api.Expr {
	if deep <= 1 || s.r.Intn(6) == 0 {
		if s.r.Intn(4) == 0 {
			return tree.Join(s.one(api.OpNum, api.OpBool), s.r.Intn(2), "")
		}
		return v(s.names[s.r.Intn(len(s.names))])
	}
	ops := []int{api.OpPre, api.OpPre, api.OpPre, api.OpArrow, api.OpArrow}
	for op, count := range takes() {
		if count > 0 && op != api.OpPre && op != api.OpArrow {
			ops = append(ops, op)
		}
	}
	if s.past {
		ops = append(ops, api.OpOnce, api.OpHist, api.OpPrev, api.OpWithin, api.OpSince)
	}
	slices.Sort(ops)
	o, n := ops[s.r.Intn(len(ops))], 0
	if (o == api.OpDiv || o == api.OpMod || o == api.OpMul) && s.r.Intn(3) > 0 {
		o = s.one(api.OpAdd, api.OpSub, api.OpIf)
	}
	if o == api.OpWithin {
		n = s.r.Intn(4)
	}
	var parts []api.Expr
	for range tree.Kids(api.Node{Op: o}) {
		parts = append(parts, s.expr(deep-1))
	}
	return tree.Join(o, n, "", parts...)
}

// streams are some, in any order; many of them are others, and now and then one needs itself.
func (s *somes) streams() []api.Stream {
	var l []api.Stream
	s.names = strings.Fields("a b c d e f g")[:1+s.r.Intn(7)]
	for i, name := range s.names {
		x := api.Stream{Name: name, Type: s.one(api.Bool, api.Int, api.Int, 0, 7)}
		if i > 0 && s.r.Intn(5) > 0 {
			x.E = s.expr(1 + s.r.Intn(4))
			for k, n := range x.E {
				if n.Op == api.OpVar && s.r.Intn(4) > 0 {
					x.E[k].Name = s.names[s.r.Intn(i)]
				}
			}
			x.E = shuffled(s.r, x.E)
		}
		l = append(l, x)
	}
	s.r.Shuffle(len(l), func(i, j int) { l[i], l[j] = l[j], l[i] })
	return l
}

// shuffled is an expression whose nodes stand in another order, operands ahead.
func shuffled(r *rand.Rand, e api.Expr) api.Expr {
	var out api.Expr
	to := map[int]int{-1: -1}
	for len(out) < len(e) {
		i := r.Intn(len(e))
		n := e[i]
		_, put := to[i]
		a, okA := to[n.A]
		b, okB := to[n.B]
		c, okC := to[n.C]
		if put || !okA || !okB || !okC {
			continue
		}
		n.A, n.B, n.C = a, b, c
		to[i] = len(out)
		out = append(out, n)
	}
	return out
}

func (s *somes) frames(l []api.Stream) [][]int {
	var in [][]int
	for range 2 + s.r.Intn(8) {
		var row []int
		for _, x := range l {
			switch {
			case len(x.E) > 0:
			case x.Type == api.Bool:
				row = append(row, s.r.Intn(2))
			default:
				row = append(row, s.one(0, 1, 2, 5, -3, s.r.Intn(9), math.MaxInt32, math.MinInt32))
			}
		}
		in = append(in, row)
	}
	return in
}

// tells tells that a net is what streams are.
func tells(t *testing.T, l []api.Stream, n norm.Net, in [][]int) api.Errno {
	t.Helper()
	want, wantFault := flat.Run(l, in)
	rows, fault := (&telling{Net: n, in: in, known: map[place]int{}, fault: map[place]api.Errno{}}).rows()
	if fault != wantFault || !slices.EqualFunc(rows, want, slices.Equal) {
		t.Fatalf("P14.3: %v, %v: %v, %d, not %v, %d", l, in, rows, fault, want, wantFault)
	}
	return fault
}

func TestManyStreams(t *testing.T) {
	s := &somes{r: rand.New(rand.NewSource(142))}
	seen := map[api.Errno]int{}
	vars := 0
	for range 40000 {
		l := s.streams()
		if _, f := flat.Run(l, nil); f != api.OK {
			fails(t, "some", l, f)
			seen[f]++
			continue
		}
		for _, x := range l {
			if len(x.E) == 1 && x.E[0].Op == api.OpVar {
				vars++
			}
		}
		makes(t, l, said(l))
		n, _ := norm.Make(l)
		seen[tells(t, l, n, s.frames(l))]++
		if t.Failed() {
			return
		}
	}
	for f, least := range map[api.Errno]int{api.OK: 15000, api.ErrCycle: 4000, api.ErrOver: 1000, api.ErrZero: 1000} {
		if seen[f] < least {
			t.Errorf("%d: seen %d times", f, seen[f])
		}
	}
	if vars < 10000 {
		t.Errorf("%d streams that are others", vars)
	}
}

// Streams of the past, once they are free of it.
func TestManyPasts(t *testing.T) {
	s := &somes{r: rand.New(rand.NewSource(143)), past: true}
	seen := map[api.Errno]int{}
	pasts := 0
	for range 20000 {
		l := s.streams()
		free, f := past.Free(l)
		if f != api.OK {
			t.Fatal(f)
		}
		if len(free) > len(l) {
			fails(t, "the past", l, api.ErrArg)
			pasts++
		}
		n, f := norm.Make(free)
		if _, want := flat.Run(l, nil); f != want {
			t.Fatalf("P14.2: %v: %d, not %d", l, f, want)
		}
		if f != api.OK {
			seen[f]++
			continue
		}
		if f := norm.Check(n); f != api.OK || !same(n, said(free)) {
			t.Fatalf("P14.2: %v: %v, %d", free, n, f)
		}
		seen[tells(t, free, n, s.frames(free))]++
	}
	if pasts < 5000 || seen[api.OK] < 5000 || seen[api.ErrCycle] < 1000 {
		t.Error(seen, pasts)
	}
}

// Nothing that is handed in makes a call panic.
func TestAnything(t *testing.T) {
	r := rand.New(rand.NewSource(144))
	some := func() int {
		return []int{-1, -1, -1, r.Intn(4), r.Intn(9) - 2, math.MinInt, math.MaxInt}[r.Intn(7)]
	}
	seen := map[api.Errno]int{}
	for range 100000 {
		var l []api.Stream
		var n norm.Net
		for i := range r.Intn(4) {
			var e api.Expr
			for range r.Intn(3) {
				e = append(e, api.Node{Op: r.Intn(31) - 1, A: some(), B: some(), C: some(), N: r.Intn(3) * some(), Name: []string{"", "a", "b"}[r.Intn(3)]})
			}
			l = append(l, api.Stream{Name: []string{"", "a", "b", "c"}[(i+r.Intn(2))%4], Type: some(), E: e})
			n.Ops = append(n.Ops, norm.Op{Op: r.Intn(31) - 1, A: some(), B: some(), C: some(), N: r.Intn(2) * some()})
			n.Roots = append(n.Roots, some())
			n.Inputs = append(n.Inputs, some())
		}
		got, f := norm.Make(l)
		_, want := flat.Run(l, nil)
		if slices.ContainsFunc(l, func(x api.Stream) bool { return past.Has(x.E) }) {
			want = api.ErrArg
		}
		if f != want || f != api.OK && fmt.Sprint(got) != "{[] [] []}" {
			t.Fatalf("P14.2: %v: %v, %d", l, got, f)
		}
		if f := norm.Check(n); f != checked(n) {
			t.Fatalf("P14.1: %v: %d", n, f)
		}
		seen[f]++
	}
	if seen[api.OK] < 10000 || seen[api.ErrArg] < 10000 {
		t.Error(seen)
	}
}
