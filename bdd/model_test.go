package bdd_test

import (
	"math"
	"math/bits"
	"math/rand"
	"slices"
	"testing"

	"bailment/api"
	"bailment/bdd"
)

// table is a function as all its values, told in order: false ahead of true, the
// first variable in front. The first of these is the lowest bit.
type table uint64

// tables is what a store is, told in another way: functions by all their values.
type tables struct {
	vars, budget int
	of           []table       // by number
	numbers      map[table]int // back again
}

func (m *tables) points() int { return 1 << m.vars }

// where are the points at which a variable is true.
func (m *tables) where(i int) table {
	var x table
	for p := range m.points() {
		x |= table(p>>(m.vars-1-i)&1) << p
	}
	return x
}

func (m *tables) all() table { return 1<<m.points() - 1 }

// fixed is a function with a variable being true, or false.
func (m *tables) fixed(x table, i int, b bool) table {
	var y table
	bit := 1 << (m.vars - 1 - i)
	for p := range m.points() {
		q := p &^ bit
		if b {
			q |= bit
		}
		y |= x >> q & 1 << p
	}
	return y
}

// parts are all functions of which a diagram has nodes, itself too.
func (m *tables) parts(x table, seen map[table]bool) {
	if seen[x] {
		return
	}
	seen[x] = true
	for i := range m.vars {
		low, high := m.fixed(x, i, false), m.fixed(x, i, true)
		if low != high {
			m.parts(low, seen)
			m.parts(high, seen)
			return
		}
	}
}

// tell is what a call that makes a function answers: its number, or none, if it
// is a new one, and the error.
func (m *tables) tell(x table) (int, api.Errno) {
	seen := map[table]bool{}
	m.parts(x, seen)
	count := len(m.of)
	for y := range seen {
		if _, is := m.numbers[y]; !is {
			count++
		}
	}
	if count > m.budget {
		return -1, api.ErrBudget
	}
	if f, is := m.numbers[x]; is {
		return f, api.OK
	}
	return -1, api.OK
}

// learn has a store's new nodes, and tells what is so of all: there is no other
// node of that function, and there are those of which it is made.
func (m *tables) learn(t *testing.T, s *bdd.Store) {
	t.Helper()
	for f := len(m.of); f < s.Size(); f++ {
		x := m.values(t, s, f)
		if g, is := m.numbers[x]; is {
			t.Fatalf("P20.4: %d and %d are the same function %b", f, g, x)
		}
		m.numbers[x] = f
		m.of = append(m.of, x)
	}
	for _, x := range m.of {
		seen := map[table]bool{}
		m.parts(x, seen)
		for y := range seen {
			if _, is := m.numbers[y]; !is {
				t.Fatalf("P20.2: %b is there, and %b, of which it is made, is not", x, y)
			}
		}
	}
}

// values are all that a function has, by the store.
func (m *tables) values(t *testing.T, s *bdd.Store, f int) table {
	t.Helper()
	var x table
	for p := range m.points() {
		v, e := s.Value(f, m.at(p))
		if e != api.OK {
			t.Fatalf("P20.3: %d at %d: %d", f, p, e)
		}
		if v {
			x |= 1 << p
		}
	}
	return x
}

func (m *tables) at(p int) []bool {
	l := make([]bool, m.vars)
	for i := range l {
		l[i] = p>>(m.vars-1-i)&1 == 1
	}
	return l
}

// asks are random calls of a store.
type asks struct {
	r *rand.Rand
	s *bdd.Store
	m *tables
}

func (a *asks) function() int {
	n := len(a.m.of)
	if a.r.Intn(80) == 0 {
		return []int{-1, n, n + 1, 10000, math.MinInt, math.MaxInt}[a.r.Intn(6)]
	}
	// Most times one that is not true or false alone, nor much more often the one than the other.
	best, off := 0, 65
	for range 1 + a.r.Intn(4) {
		f := a.r.Intn(n)
		if d := bits.OnesCount64(uint64(a.m.of[f]))*2 - a.m.points(); max(d, -d) < off {
			best, off = f, max(d, -d)
		}
	}
	return best
}

func (a *asks) variable() int {
	if a.r.Intn(40) == 0 {
		return []int{-1, a.m.vars, 30, math.MinInt, math.MaxInt}[a.r.Intn(5)]
	}
	return a.r.Intn(a.m.vars + 1)
}

// call is one that makes a function: what it answers, and which function that
// is, by the values of those that go in; not ok: something is none.
func (a *asks) call() (what string, f int, e api.Errno, x table, ok bool) {
	m := a.m
	of := func(l ...int) []table {
		ok = true
		out := make([]table, len(l))
		for i, f := range l {
			if f < 0 || f >= len(m.of) {
				ok = false
			} else {
				out[i] = m.of[f]
			}
		}
		return out
	}
	switch a.r.Intn(8) {
	case 0:
		i := a.variable()
		f, e = a.s.Var(i)
		if ok = 0 <= i && i < m.vars; ok {
			x = m.where(i)
		}
		return "var", f, e, x, ok
	case 1, 2:
		l := []int{a.function(), a.function(), a.function()}
		x := of(l...)
		f, e = a.s.Ite(l[0], l[1], l[2])
		return "ite", f, e, x[0]&x[1] | ^x[0]&x[2], ok
	case 3:
		g := a.function()
		x := of(g)
		f, e = a.s.Not(g)
		return "not", f, e, m.all() &^ x[0], ok
	case 4:
		l := make([]int, a.r.Intn(5))
		for i := range l {
			l[i] = a.function()
		}
		x = m.all()
		for _, y := range of(l...) {
			x &= y
		}
		f, e = a.s.And(l...)
		return "and", f, e, x, ok
	case 5:
		l := make([]int, a.r.Intn(5))
		for i := range l {
			l[i] = a.function()
		}
		for _, y := range of(l...) {
			x |= y
		}
		f, e = a.s.Or(l...)
		return "or", f, e, x, ok
	}
	g, i, b := a.function(), a.variable(), a.r.Intn(2) == 0
	y := of(g)
	f, e = a.s.Restrict(g, i, b)
	if ok = ok && 0 <= i && i < m.vars; ok {
		x = m.fixed(y[0], i, b)
	}
	return "restrict", f, e, x, ok
}

// makes holds a call against what is told of it.
func (a *asks) makes(t *testing.T) (string, api.Errno) {
	t.Helper()
	size := a.s.Size()
	what, f, e, x, ok := a.call()
	number, want := 0, api.ErrArg
	if ok {
		number, want = a.m.tell(x)
	}
	if e != want || e != api.OK && (f != 0 || a.s.Size() != size) || e == api.OK && number >= 0 && (f != number || a.s.Size() != size) {
		t.Fatalf("P20.2: %s of %b, %d of %d nodes: %d, %d, not %d, %d", what, x, size, a.m.budget, f, e, number, want)
	}
	if e != api.OK || number >= 0 {
		return what, e
	}
	if f < size || f >= a.s.Size() || a.m.values(t, a.s, f) != x {
		t.Fatalf("P20.2: %s: %d of %d nodes is %b, not %b", what, f, a.s.Size(), a.m.values(t, a.s, f), x)
	}
	added := map[table]bool{}
	a.m.parts(x, added)
	for y := range added {
		if _, is := a.m.numbers[y]; is {
			delete(added, y)
		}
	}
	if a.s.Size() != size+len(added) {
		t.Fatalf("P20.2: %s of %b: %d nodes, not %d and %d", what, x, a.s.Size(), size, len(added))
	}
	a.m.learn(t, a.s)
	return what + ", new", e
}

// tells holds what is told of a function against its values.
func (a *asks) tells(t *testing.T) {
	t.Helper()
	f := a.r.Intn(len(a.m.of))
	x := a.m.of[f]
	if a.m.values(t, a.s, f) != x {
		t.Fatalf("P20.2: %d was %b, and is %b", f, x, a.m.values(t, a.s, f))
	}
	if n, e := a.s.Count(f); n != bits.OnesCount64(uint64(x)) || e != api.OK {
		t.Fatalf("P20.3: count of %b: %d, %d", x, n, e)
	}
	l, is := a.s.Witness(f)
	if is != (x != 0) || is && !slices.Equal(l, a.m.at(bits.TrailingZeros64(uint64(x)))) || !is && l != nil {
		t.Fatalf("P20.3: witness of %b: %v, %v", x, l, is)
	}
}

func TestManyStores(t *testing.T) {
	r := rand.New(rand.NewSource(201))
	seen, faults := map[string]int{}, map[api.Errno]int{}
	for range 4000 {
		vars := min(r.Intn(9), 5)
		budget := []int{2 + r.Intn(20), 2 + r.Intn(60), 10000}[r.Intn(3)]
		a := &asks{r, opens(t, vars, budget), &tables{vars: vars, budget: budget, numbers: map[table]int{}}}
		a.m.learn(t, a.s)
		if !slices.Equal(a.m.of, []table{0, a.m.all()}) {
			t.Fatalf("P20.1: %v", a.m.of)
		}
		for range 10 + r.Intn(200) {
			what, e := a.makes(t)
			a.tells(t)
			seen[what]++
			faults[e]++
		}
	}
	for _, what := range []string{"var", "ite", "not", "and", "or", "restrict"} {
		if seen[what] < 1000 || seen[what+", new"] < 300 {
			t.Errorf("%s: seen %d times, and %d times new", what, seen[what], seen[what+", new"])
		}
	}
	for f, least := range map[api.Errno]int{api.OK: 100000, api.ErrArg: 20000, api.ErrBudget: 10000} {
		if faults[f] < least {
			t.Errorf("error %d: seen %d times", f, faults[f])
		}
	}
}

// The same calls again have the same answers.
func TestAgain(t *testing.T) {
	for seed := range int64(50) {
		var told [2][]int
		for k := range told {
			r := rand.New(rand.NewSource(seed))
			vars, budget := r.Intn(6), 2+r.Intn(100)
			a := &asks{r, opens(t, vars, budget), &tables{vars: vars, budget: budget, numbers: map[table]int{}}}
			a.m.learn(t, a.s)
			for range 60 {
				_, f, e, _, _ := a.call()
				a.m.learn(t, a.s)
				told[k] = append(told[k], f, int(e), a.s.Size())
			}
		}
		if !slices.Equal(told[0], told[1]) {
			t.Fatalf("R6: %v, and %v", told[0], told[1])
		}
	}
}

// Functions of many variables: each is true where one of a few variables is as
// is said, and all together where all are.
func TestManyClauses(t *testing.T) {
	r := rand.New(rand.NewSource(202))
	ok := must(t)
	seen := map[bool]int{}
	for range 40 {
		const vars = 30
		s := opens(t, vars, 10000)
		var said []map[int]bool
		var l []int
		for range 20 + r.Intn(200) {
			clause, parts := map[int]bool{}, []int{}
			for range 3 {
				i, b := min(r.Intn(8)*4+r.Intn(6), vars-1), r.Intn(2) == 0
				clause[i] = b
			}
			for i := range vars {
				b, is := clause[i]
				if x := ok(s.Var(i)); is && b {
					parts = append(parts, x)
				} else if is {
					parts = append(parts, ok(s.Not(x)))
				}
			}
			said, l = append(said, clause), append(l, ok(s.Or(parts...)))
		}
		f, e := s.And(l...)
		if e == api.ErrBudget {
			continue
		}
		holds := func(at []bool) bool {
			return !slices.ContainsFunc(said, func(clause map[int]bool) bool {
				for i, b := range clause {
					if at[i] == b {
						return false
					}
				}
				return true
			})
		}
		at, is := s.Witness(f)
		if is != (f != 0) || is && !holds(at) {
			t.Fatalf("P20.3: %v: %v, %v", said, at, is)
		}
		seen[is]++
		for range 2000 {
			at := make([]bool, vars)
			for i := range at {
				at[i] = r.Intn(2) == 0
			}
			if v, e := s.Value(f, at); v != holds(at) || e != api.OK {
				t.Fatalf("P20.3: %v at %v: %v, %d", said, at, v, e)
			}
		}
		// Variable by variable: both sides together are all, and none ahead of the witness is true.
		g := f
		for i := range at {
			low, e := s.Restrict(f, i, false)
			high, e2 := s.Restrict(f, i, true)
			if e == api.OK && e2 == api.OK && 2*ok(s.Count(f)) != ok(s.Count(low))+ok(s.Count(high)) {
				t.Fatalf("P20.3: %v: %d, of %d and %d", said, ok(s.Count(f)), ok(s.Count(low)), ok(s.Count(high)))
			}
			// These are nodes of f: they are there.
			if (ok(s.Restrict(g, i, false)) == 0) != at[i] {
				t.Fatalf("P20.3: %v: %v, first at %d", said, at, i)
			}
			g = ok(s.Restrict(g, i, at[i]))
		}
		if is && g != 1 {
			t.Fatalf("P20.3: %v: %v", said, at)
		}
	}
	if seen[true] < 10 || seen[false] < 10 {
		t.Error(seen)
	}
}
