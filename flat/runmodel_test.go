package flat_test

import (
	"fmt"
	"math"
	"math/rand"
	"slices"
	"testing"

	"bailment/api"
	"bailment/flat"
	"bailment/num"
	"bailment/tree"
)

// place is a node of a stream at an instant.
type place struct{ stream, node, instant int }

// said is what streams are, by the chapter's own words: each value is asked for
// where it is told of, back to the first instant, and nothing is kept but what
// was asked for already.
type said struct {
	l     []api.Stream
	in    [][]int
	known map[place]int
	fault map[place]api.Errno
}

func (s *said) stream(name string, t int) int {
	inputs := 0
	for i, x := range s.l {
		switch {
		case x.Name == name && len(x.E) == 0:
			return s.in[t][inputs]
		case x.Name == name:
			return s.value(i, len(x.E)-1, t)
		case len(x.E) == 0:
			inputs++
		}
	}
	panic(name)
}

func (s *said) value(i, k, t int) int {
	at := place{i, k, t}
	if x, ok := s.known[at]; ok {
		return x
	}
	x := s.reckoned(at)
	s.known[at] = x
	return x
}

func (s *said) reckoned(at place) int {
	n, t := s.l[at.stream].E[at.node], at.instant
	a := func(t int) int { return s.value(at.stream, n.A, t) }
	b := func(t int) int { return s.value(at.stream, n.B, t) }
	any := func(from int, holds func(t int) bool) int {
		for u := max(from, 0); u <= t; u++ {
			if holds(u) {
				return 1
			}
		}
		return 0
	}
	isA := func(t int) bool { return a(t) != 0 }
	switch n.Op {
	case api.OpVar:
		return s.stream(n.Name, t)
	case api.OpNum, api.OpBool:
		return n.N
	case api.OpArrow:
		if t == 0 {
			return a(t)
		}
		return b(t)
	case api.OpPre:
		if t == 0 {
			return 0
		}
		return a(t - 1)
	case api.OpPrev:
		if t > 0 && isA(t-1) {
			return 1
		}
		return 0
	case api.OpOnce:
		return any(0, isA)
	case api.OpHist:
		return 1 - any(0, func(t int) bool { return !isA(t) })
	case api.OpWithin:
		return any(t-n.N, isA)
	case api.OpSince:
		return any(0, func(u int) bool {
			for w := u + 1; w <= t; w++ {
				if !isA(w) {
					return false
				}
			}
			return b(u) != 0
		})
	}
	var l [3]int
	for i, k := range tree.Kids(n) {
		l[i] = s.value(at.stream, k, t)
	}
	x, f := num.Do(n.Op, l[0], l[1], l[2])
	s.fault[at] = f
	return x
}

// rows are all that is told, and the error behind it.
func (s *said) rows() ([][]int, api.Errno) {
	var inputs []int
	for _, x := range s.l {
		if len(x.E) == 0 {
			inputs = append(inputs, x.Type)
		}
	}
	var rows [][]int
	for t, given := range s.in {
		if len(given) != len(inputs) {
			return rows, api.ErrFrame
		}
		for i, x := range given {
			if x < math.MinInt32 || x > math.MaxInt32 || inputs[i] == api.Bool && x>>1 != 0 {
				return rows, api.ErrFrame
			}
		}
		var row []int
		var faults []api.Errno
		for i, x := range s.l {
			row = append(row, s.stream(x.Name, t))
			for k := range x.E {
				s.value(i, k, t)
				if f := s.fault[place{i, k, t}]; f != api.OK {
					faults = append(faults, f)
				}
			}
		}
		if len(faults) > 0 {
			return rows, slices.Min(faults)
		}
		rows = append(rows, row)
	}
	return rows, api.OK
}

// round tells whether some stream needs itself at the same instant.
func round(l []api.Stream) bool {
	var reaches func(name string, path []string) bool
	reaches = func(name string, path []string) bool {
		if slices.Contains(path, name) {
			return true
		}
		for _, x := range l {
			if x.Name != name || len(x.E) == 0 {
				continue
			}
			var down func(k int) bool
			down = func(k int) bool {
				n := x.E[k]
				if n.Op == api.OpVar {
					return reaches(n.Name, append(slices.Clone(path), name))
				}
				return n.Op != api.OpPre && n.Op != api.OpPrev && slices.ContainsFunc(tree.Kids(n), down)
			}
			return down(len(x.E) - 1)
		}
		return false
	}
	return slices.ContainsFunc(l, func(x api.Stream) bool { return reaches(x.Name, nil) })
}

// somes makes expressions.
type somes struct {
	r     *rand.Rand
	names []string
	calls []api.Unit
}

func (s *somes) one(l ...int) int { return l[s.r.Intn(len(l))] }

func (s *somes) expr(deep int) api.Expr {
	if deep <= 1 || s.r.Intn(6) == 0 {
		if s.r.Intn(4) == 0 || len(s.names) == 0 {
			return number(s.one(0, 1, 1, 2, 3, 7, 1000, 1<<30, math.MaxInt32))
		}
		return v(s.names[s.r.Intn(len(s.names))])
	}
	if len(s.calls) > 0 && s.r.Intn(3) == 0 {
		u := s.calls[s.r.Intn(len(s.calls))]
		var args []api.Expr
		for range u.In {
			args = append(args, s.expr(deep-1))
		}
		return call(u.Name, args...)
	}
	o, n := api.OpNot+s.r.Intn(api.OpIf-api.OpNot+1), 0
	if s.r.Intn(4) == 0 {
		o = s.one(api.OpPre, api.OpPrev)
	}
	if (o == api.OpDiv || o == api.OpMod || o == api.OpMul) && s.r.Intn(2) > 0 {
		o = s.one(api.OpAdd, api.OpSub)
	}
	if o == api.OpWithin {
		n = s.one(0, 1, 2, 3, 4, 1000)
	}
	var parts []api.Expr
	for range tree.Kids(api.Node{Op: o}) {
		parts = append(parts, s.expr(deep-1))
	}
	return tree.Join(o, n, "", parts...)
}

// streams are some, in any order, whose expressions may be; of two names, or of
// names that there are not, just now and then.
func (s *somes) streams() []api.Stream {
	var l []api.Stream
	count := s.r.Intn(6)
	s.names = []string{"a", "b", "c", "d", "e", "f"}[:count]
	later := s.r.Intn(2) == 0
	if s.r.Intn(30) == 0 {
		s.names = append(s.names, "z")
	}
	for i, name := range s.names[:count] {
		x := api.Stream{Name: name, Type: s.one(api.Bool, api.Int, api.Int, 0)}
		if i > 0 && s.r.Intn(3) > 0 {
			e := s.expr(1 + s.r.Intn(4))
			for k, n := range e {
				if later && n.Op == api.OpVar && s.r.Intn(3) > 0 {
					e[k].Name = s.names[s.r.Intn(i)]
				}
			}
			x.E = shuffled(s.r, e)
		}
		l = append(l, x)
	}
	if count > 1 && s.r.Intn(40) == 0 {
		l[0].Name = l[1].Name
	}
	s.r.Shuffle(len(l), func(i, j int) { l[i], l[j] = l[j], l[i] })
	return l
}

func (s *somes) frames(l []api.Stream) [][]int {
	var in [][]int
	for range s.r.Intn(12) {
		var row []int
		for _, x := range l {
			switch {
			case len(x.E) > 0:
			case x.Type == api.Bool:
				row = append(row, s.r.Intn(2))
			default:
				row = append(row, s.r.Intn(12)-4)
			}
		}
		switch {
		case s.r.Intn(150) == 0:
			row = append(row, 0)
		case len(row) > 0 && s.r.Intn(150) == 0:
			row = row[1:]
		case len(row) > 0 && s.r.Intn(80) == 0:
			row[s.r.Intn(len(row))] = s.one(2, -1, 1<<31, -1<<31-1, math.MaxInt, math.MinInt, math.MaxInt32, math.MinInt32)
		}
		in = append(in, row)
	}
	return in
}

// shuffled is an expression whose nodes stand in another order, operands ahead.
func shuffled(r *rand.Rand, e api.Expr) api.Expr {
	var out api.Expr
	to := map[int]int{-1: -1}
	for len(out) < len(e) {
		i := r.Intn(len(e))
		n := e[i]
		_, put := to[i]
		a, okA := to[n.A]
		b, okB := to[n.B]
		c, okC := to[n.C]
		if put || !okA || !okB || !okC {
			continue
		}
		n.A, n.B, n.C = a, b, c
		to[i] = len(out)
		out = append(out, n)
	}
	return out
}

func wrong(l []api.Stream) bool {
	for i, x := range l {
		if flat.Find(l, x.Name) != i {
			return true
		}
		for _, n := range x.E {
			if n.Op == api.OpVar && flat.Find(l, n.Name) < 0 {
				return true
			}
		}
	}
	return false
}

func TestManyRuns(t *testing.T) {
	s := &somes{r: rand.New(rand.NewSource(12))}
	seen := map[api.Errno]int{}
	long := 0
	for range 60000 {
		l := s.streams()
		in := s.frames(l)
		var want [][]int
		fault := api.OK
		switch {
		case wrong(l):
			fault = api.ErrArg
		case round(l):
			fault = api.ErrCycle
		default:
			m := &said{l: l, in: in, known: map[place]int{}, fault: map[place]api.Errno{}}
			want, fault = m.rows()
		}
		runs(t, fmt.Sprint(l, in), l, in, want, fault)
		ahead(t, s.r, l, in)
		if t.Failed() {
			return
		}
		seen[fault]++
		if len(want) > 5 {
			long++
		}
	}
	for f, least := range map[api.Errno]int{api.OK: 20000, api.ErrArg: 500, api.ErrCycle: 2000, api.ErrFrame: 2000, api.ErrOver: 100, api.ErrZero: 500} {
		if seen[f] < least {
			t.Errorf("%d: seen %d times", f, seen[f])
		}
	}
	if long < 10000 {
		t.Errorf("%d long ones", long)
	}
}

// ahead is what P12.4 says: what is told of some instants does not hang on what
// comes behind them.
func ahead(t *testing.T, r *rand.Rand, l []api.Stream, in [][]int) {
	t.Helper()
	if len(in) == 0 {
		return
	}
	rows, _ := flat.Run(l, in)
	n := r.Intn(len(in))
	first, _ := flat.Run(l, in[:n])
	other := slices.Clone(in)
	for i := n; i < len(in); i++ {
		other[i] = in[r.Intn(len(in))]
	}
	second, _ := flat.Run(l, other)
	told := min(n, len(rows))
	if len(first) != told || min(n, len(second)) != told {
		t.Fatalf("P12.4: %v, %v: %d of %d instants, %d, %d", l, in, n, len(rows), len(first), len(second))
	}
	for i := range told {
		if !slices.Equal(rows[i], first[i]) || !slices.Equal(rows[i], second[i]) {
			t.Fatalf("P12.4: %v, %v: %v, %v, %v", l, in, rows[i], first[i], second[i])
		}
	}
}

// Nothing that is handed in makes a call panic.
func TestAnything(t *testing.T) {
	r := rand.New(rand.NewSource(13))
	some := func() int {
		return []int{-1, -1, -1, r.Intn(4), r.Intn(9) - 2, math.MinInt, math.MaxInt}[r.Intn(7)]
	}
	expression := func() api.Expr {
		var e api.Expr
		for range r.Intn(5) {
			e = append(e, api.Node{Op: r.Intn(31) - 1, A: some(), B: some(), C: some(), N: r.Intn(3) * some(), Name: []string{"", "a", "b"}[r.Intn(3)]})
		}
		return e
	}
	for range 100000 {
		var l []api.Stream
		var u api.Unit
		for i := range r.Intn(4) {
			x := api.Stream{Name: []string{"", "a", "b", "c"}[(i+r.Intn(2))%4], Type: some(), E: expression()}
			l = append(l, x)
			u.Eqs = append(u.Eqs, api.Equation{Name: x.Name, E: x.E})
			u.Vars = append(u.Vars, api.Param{Name: x.Name, Type: x.Type})
		}
		in := [][]int{{}, {some()}, {some(), some()}}[r.Intn(3):]
		rows, f := flat.Run(l, in)
		if wrong(l) && (rows != nil || f != api.ErrArg) || f == api.OK && len(rows) != len(in) {
			t.Fatalf("P12.3: %v: %v, %d", l, rows, f)
		}
		u.Name = "f"
		if l, f := flat.Make(api.Prog{Units: []api.Unit{u}, Main: "f"}, "f"); f != api.OK && l != nil {
			t.Fatalf("P12.2: %v: %v, %d", u, l, f)
		}
	}
}
