package bdd_test

import (
	"math"
	"slices"
	"testing"
	"time"

	"bailment/api"
	"bailment/bdd"
)

func opens(t *testing.T, vars, budget int) *bdd.Store {
	t.Helper()
	s, f := bdd.New(vars, budget)
	if s == nil || f != api.OK || s.Size() != 2 {
		t.Fatalf("P20.1: %d variables, budget %d: %d", vars, budget, f)
	}
	return s
}

// must is a function that is made.
func must(t *testing.T) func(f int, e api.Errno) int {
	return func(f int, e api.Errno) int {
		t.Helper()
		if e != api.OK {
			t.Fatalf("P20.2: error %d", e)
		}
		return f
	}
}

// made are a store's variables, made in their order, and what tells that a call
// has no error.
func made(t *testing.T, s *bdd.Store, vars int) ([]int, func(f int, e api.Errno) int) {
	t.Helper()
	ok := must(t)
	var l []int
	for i := range vars {
		l = append(l, ok(s.Var(i)))
	}
	return l, ok
}

// fails tells that a call has an error, and that nothing comes of it.
func fails(t *testing.T, what string, s *bdd.Store, want api.Errno, call func() (int, api.Errno)) {
	t.Helper()
	size := s.Size()
	for range 2 {
		if f, e := call(); f != 0 || e != want || s.Size() != size {
			t.Errorf("P20.2: %s: %d, %d, not %d; %d nodes, not %d", what, f, e, want, s.Size(), size)
		}
	}
}

func TestNew(t *testing.T) {
	for _, c := range [][2]int{{0, 2}, {0, 10000}, {30, 2}, {30, 10000}, {1, 3}, {17, 999}} {
		s := opens(t, c[0], c[1])
		if s.Const(false) != 0 || s.Const(true) != 1 || s.Size() != 2 {
			t.Errorf("P20.1: %v", c)
		}
	}
	for _, c := range [][2]int{{-1, 2}, {31, 2}, {-1, 10000}, {31, 10000}, {0, 1}, {0, 0}, {0, -2}, {0, 10001}, {30, 1}, {30, 10001}, {-1, 1}, {31, 10001}, {math.MinInt, 100}, {math.MaxInt, 100}, {3, math.MinInt}, {3, math.MaxInt}} {
		if s, f := bdd.New(c[0], c[1]); s != nil || f != api.ErrArg {
			t.Errorf("P20.1: %v: %v, %d", c, s, f)
		}
	}
}

// Of nil there is nothing, and of a store that New did not make there is no more.
func TestNoStore(t *testing.T) {
	for what, s := range map[string]*bdd.Store{"nil": nil, "zero": {}} {
		if s.Size() != 0 || s.Const(false) != 0 || s.Const(true) != 0 {
			t.Errorf("P20.1: %s: %d, %d, %d", what, s.Size(), s.Const(false), s.Const(true))
		}
		for _, f := range []int{-1, 0, 1, 2} {
			fails(t, what+" var", s, api.ErrArg, func() (int, api.Errno) { return s.Var(f) })
			fails(t, what+" ite", s, api.ErrArg, func() (int, api.Errno) { return s.Ite(f, 1, 0) })
			fails(t, what+" not", s, api.ErrArg, func() (int, api.Errno) { return s.Not(f) })
			fails(t, what+" and", s, api.ErrArg, func() (int, api.Errno) { return s.And(f, 1) })
			fails(t, what+" or", s, api.ErrArg, func() (int, api.Errno) { return s.Or(f) })
			fails(t, what+" restrict", s, api.ErrArg, func() (int, api.Errno) { return s.Restrict(f, 0, true) })
			fails(t, what+" count", s, api.ErrArg, func() (int, api.Errno) { return s.Count(f) })
			if v, e := s.Value(f, nil); v || e != api.ErrArg {
				t.Errorf("P20.1: %s: value %v, %d", what, v, e)
			}
			if l, is := s.Witness(f); l != nil || is {
				t.Errorf("P20.1: %s: witness %v, %v", what, l, is)
			}
		}
		fails(t, what+" and", s, api.ErrArg, func() (int, api.Errno) { return s.And() })
		fails(t, what+" or", s, api.ErrArg, func() (int, api.Errno) { return s.Or() })
	}
}

// Without variables there are two functions.
func TestNoVariables(t *testing.T) {
	s := opens(t, 0, 2)
	ok := must(t)
	for f, want := range []int{1, 0} {
		if ok(s.Not(f)) != want || ok(s.And(f)) != f || ok(s.Or(f, 0)) != f || ok(s.And(f, want)) != 0 || ok(s.Or(want, f)) != 1 || ok(s.Ite(f, 0, 1)) != want || ok(s.Count(f)) != f {
			t.Errorf("P20.2: %d", f)
		}
		if v, e := s.Value(f, []bool{}); v != (f == 1) || e != api.OK {
			t.Errorf("P20.3: %d: %v, %d", f, v, e)
		}
		if v, e := s.Value(f, []bool{true}); v || e != api.ErrArg {
			t.Errorf("P20.3: %d: %v, %d", f, v, e)
		}
		fails(t, "restrict", s, api.ErrArg, func() (int, api.Errno) { return s.Restrict(f, 0, false) })
	}
	fails(t, "var", s, api.ErrArg, func() (int, api.Errno) { return s.Var(0) })
	if l, is := s.Witness(1); len(l) != 0 || !is {
		t.Errorf("P20.3: %v, %v", l, is)
	}
	if l, is := s.Witness(0); l != nil || is {
		t.Errorf("P20.3: %v, %v", l, is)
	}
	if s.Size() != 2 {
		t.Errorf("P20.1: %d", s.Size())
	}
}

func TestFunctions(t *testing.T) {
	s := opens(t, 3, 100)
	v, ok := made(t, s, 3)
	a, b, c := v[0], v[1], v[2]
	if s.Size() != 5 || a == b || b == c || a == c || a < 2 || b < 2 || c < 2 || ok(s.Var(0)) != a || ok(s.Var(2)) != c {
		t.Errorf("P20.2: %v", v)
	}
	// Each line is one function.
	for i, l := range [][]int{
		{1, ok(s.Or(a, ok(s.Not(a)))), ok(s.And()), ok(s.And(1, 1)), ok(s.Or(0, 1, a)), ok(s.Ite(a, 1, 1)), ok(s.Not(0))},
		{0, ok(s.And(a, ok(s.Not(a)))), ok(s.Or()), ok(s.And(b, 0, c)), ok(s.Or(0)), ok(s.Ite(b, 0, 0)), ok(s.Not(1))},
		{a, ok(s.And(a)), ok(s.Or(a)), ok(s.And(a, a, a)), ok(s.Or(a, 0, a)), ok(s.Not(ok(s.Not(a)))), ok(s.Ite(a, 1, 0)), ok(s.Ite(1, a, b)), ok(s.Ite(0, b, a)), ok(s.Ite(b, a, a)), ok(s.Ite(a, a, 0)), ok(s.Ite(a, 1, a)), ok(s.Or(a, ok(s.And(a, b))))},
		{ok(s.Ite(a, b, c)), ok(s.Or(ok(s.And(a, b)), ok(s.And(ok(s.Not(a)), c)))), ok(s.And(ok(s.Or(ok(s.Not(a)), b)), ok(s.Or(a, c))))},
		{ok(s.And(a, b, c)), ok(s.And(c, b, a)), ok(s.And(ok(s.And(a, b)), c)), ok(s.And(a, ok(s.And(b, c)), 1)), ok(s.Not(ok(s.Or(ok(s.Not(a)), ok(s.Not(b)), ok(s.Not(c))))))},
		{ok(s.Or(a, b, c)), ok(s.Or(c, a, b)), ok(s.Or(ok(s.Or(b, c)), a, 0)), ok(s.Not(ok(s.And(ok(s.Not(a)), ok(s.Not(b)), ok(s.Not(c))))))},
		{ok(s.Ite(a, ok(s.Not(b)), b)), ok(s.Ite(b, ok(s.Not(a)), a)), ok(s.And(ok(s.Or(a, b)), ok(s.Not(ok(s.And(a, b))))))},
	} {
		if slices.ContainsFunc(l, func(f int) bool { return f != l[0] }) {
			t.Errorf("P20.4: line %d: %v", i, l)
		}
	}
	x := ok(s.Ite(a, b, c))
	for i, want := range [][2]int{{c, b}, {ok(s.And(ok(s.Not(a)), c)), ok(s.Or(a, c))}, {ok(s.And(a, b)), ok(s.Or(ok(s.Not(a)), b))}} {
		if f, g := ok(s.Restrict(x, i, false)), ok(s.Restrict(x, i, true)); f != want[0] || g != want[1] {
			t.Errorf("P20.2: restrict %d: %d, %d, not %v", i, f, g, want)
		}
	}
	for i := range 3 {
		for f, want := range map[int][2]int{0: {0, 0}, 1: {1, 1}, v[i]: {0, 1}, v[(i+1)%3]: {v[(i+1)%3], v[(i+1)%3]}} {
			if g, h := ok(s.Restrict(f, i, false)), ok(s.Restrict(f, i, true)); g != want[0] || h != want[1] {
				t.Errorf("P20.2: restrict %d of %d: %d, %d, not %v", i, f, g, h, want)
			}
		}
	}
}

func TestValues(t *testing.T) {
	s := opens(t, 3, 100)
	v, ok := made(t, s, 3)
	not := func(f int) int { return ok(s.Not(f)) }
	for i, x := range []struct {
		f       int
		truths  string // by the values in order, the first variable in front
		count   int
		witness []bool
	}{
		{0, "00000000", 0, nil},
		{1, "11111111", 8, []bool{false, false, false}},
		{v[0], "00001111", 4, []bool{true, false, false}},
		{v[1], "00110011", 4, []bool{false, true, false}},
		{v[2], "01010101", 4, []bool{false, false, true}},
		{not(v[2]), "10101010", 4, []bool{false, false, false}},
		{ok(s.And(v...)), "00000001", 1, []bool{true, true, true}},
		{ok(s.Or(v...)), "01111111", 7, []bool{false, false, true}},
		{ok(s.And(v[0], not(v[2]))), "00001010", 2, []bool{true, false, false}},
		{ok(s.And(v[1], not(v[0]))), "00110000", 2, []bool{false, true, false}},
		{ok(s.Or(v[0], ok(s.And(v[1], v[2])))), "00011111", 5, []bool{false, true, true}},
		{ok(s.Ite(v[0], not(v[1]), ok(s.And(v[1], v[2])))), "00011100", 3, []bool{false, true, true}},
	} {
		for k, want := range x.truths {
			at := []bool{k>>2&1 == 1, k>>1&1 == 1, k&1 == 1}
			given := slices.Clone(at)
			if is, e := s.Value(x.f, given); is != (want == '1') || e != api.OK || !slices.Equal(at, given) {
				t.Errorf("P20.3: case %d at %v: %v, %d", i, at, is, e)
			}
		}
		if n, e := s.Count(x.f); n != x.count || e != api.OK {
			t.Errorf("P20.3: case %d: %d, %d, not %d", i, n, e, x.count)
		}
		for range 2 {
			l, is := s.Witness(x.f)
			if !slices.Equal(l, x.witness) || is != (x.f != 0) {
				t.Errorf("P20.3: case %d: %v, %v, not %v", i, l, is, x.witness)
			}
			for k := range l {
				l[k] = !l[k]
			}
		}
	}
}

// What is no function, or no variable, is told ahead of all else.
func TestWrong(t *testing.T) {
	s := opens(t, 3, 5) // and full, once its variables are made
	v, _ := made(t, s, 3)
	for _, bad := range []int{-1, -2, s.Size(), s.Size() + 1, 10000, math.MinInt, math.MaxInt} {
		for what, call := range map[string]func() (int, api.Errno){
			"ite 1":      func() (int, api.Errno) { return s.Ite(bad, v[0], v[1]) },
			"ite 1 of 0": func() (int, api.Errno) { return s.Ite(bad, 0, 0) },
			"ite 2":      func() (int, api.Errno) { return s.Ite(v[0], bad, v[1]) },
			"ite 2 of 0": func() (int, api.Errno) { return s.Ite(0, bad, 1) },
			"ite 3":      func() (int, api.Errno) { return s.Ite(v[0], v[1], bad) },
			"ite 3 of 1": func() (int, api.Errno) { return s.Ite(1, 1, bad) },
			"not":        func() (int, api.Errno) { return s.Not(bad) },
			"and":        func() (int, api.Errno) { return s.And(bad) },
			"and 0":      func() (int, api.Errno) { return s.And(0, bad) },
			"and more":   func() (int, api.Errno) { return s.And(v[0], v[1], v[2], bad) },
			"and first":  func() (int, api.Errno) { return s.And(bad, v[0], v[1]) },
			"or":         func() (int, api.Errno) { return s.Or(bad) },
			"or 1":       func() (int, api.Errno) { return s.Or(1, bad) },
			"or more":    func() (int, api.Errno) { return s.Or(v[0], v[1], v[2], bad) },
			"restrict":   func() (int, api.Errno) { return s.Restrict(bad, 0, true) },
			"both":       func() (int, api.Errno) { return s.Restrict(bad, 3, true) },
			"count":      func() (int, api.Errno) { return s.Count(bad) },
		} {
			fails(t, what, s, api.ErrArg, call)
		}
		if is, e := s.Value(bad, make([]bool, 3)); is || e != api.ErrArg {
			t.Errorf("P20.3: value of %d: %v, %d", bad, is, e)
		}
		if l, is := s.Witness(bad); l != nil || is {
			t.Errorf("P20.3: witness of %d: %v, %v", bad, l, is)
		}
	}
	for _, bad := range []int{-1, 3, 4, 30, math.MinInt, math.MaxInt} {
		fails(t, "var", s, api.ErrArg, func() (int, api.Errno) { return s.Var(bad) })
		for _, f := range append([]int{0, 1}, v...) {
			fails(t, "restrict", s, api.ErrArg, func() (int, api.Errno) { return s.Restrict(f, bad, false) })
			fails(t, "restrict", s, api.ErrArg, func() (int, api.Errno) { return s.Restrict(f, bad, true) })
		}
	}
	for _, n := range []int{0, 1, 2, 4, 30} {
		for _, f := range append([]int{0, 1}, v...) {
			if is, e := s.Value(f, slices.Repeat([]bool{true}, n)); is || e != api.ErrArg {
				t.Errorf("P20.3: value of %d at %d values: %v, %d", f, n, is, e)
			}
		}
	}
}

// A store that is full tells of the functions that it has, however they are
// asked for, and of no other.
func TestBudget(t *testing.T) {
	for size := 2; size < 5; size++ {
		s := opens(t, 3, size)
		for i := range 3 {
			call := func() (int, api.Errno) { return s.Var(i) }
			if i < size-2 {
				must(t)(call())
			} else {
				fails(t, "var", s, api.ErrBudget, call)
			}
		}
		if s.Size() != size {
			t.Errorf("P20.2: %d nodes, not %d", s.Size(), size)
		}
	}
	s := opens(t, 3, 8)
	v, ok := made(t, s, 3)
	a, b, c := v[0], v[1], v[2]
	ab := ok(s.And(a, b))
	not := ok(s.Not(a))
	some := ok(s.Or(b, c))
	if s.Size() != 8 {
		t.Fatalf("P20.2: %d nodes", s.Size())
	}
	for what, call := range map[string]func() (int, api.Errno){
		"not b":     func() (int, api.Errno) { return s.Not(b) },
		"and":       func() (int, api.Errno) { return s.And(b, c) },
		"and 3":     func() (int, api.Errno) { return s.And(a, b, c) },
		"or":        func() (int, api.Errno) { return s.Or(a, b) },
		"or 4":      func() (int, api.Errno) { return s.Or(c, 0, a, b) },
		"ite":       func() (int, api.Errno) { return s.Ite(a, b, c) },
		"half":      func() (int, api.Errno) { return s.Ite(a, 0, some) },
		"two nodes": func() (int, api.Errno) { return s.Not(some) },
	} {
		fails(t, what, s, api.ErrBudget, call)
	}
	for i, l := range [][]int{
		{0, ok(s.And(a, b, c, 0)), ok(s.And(c, b, not, a)), ok(s.And(b, c, not, ab)), ok(s.Ite(ab, not, 0))},
		{1, ok(s.Or(b, a, c, 1)), ok(s.Or(b, c, not, a)), ok(s.Or(not, c, b, ok(s.Var(0))))},
		{a, ok(s.Not(not)), ok(s.Or(a, ab)), ok(s.And(a, 1))},
		{ab, ok(s.And(ab, some)), ok(s.And(some, ab, a)), ok(s.And(b, a, some))},
		{some, ok(s.Or(c, b)), ok(s.Or(ab, c, b)), ok(s.Restrict(some, 0, true)), ok(s.Or(c, b, ab, c))},
		{b, ok(s.Restrict(ab, 0, true)), ok(s.Restrict(some, 2, false))},
		{not, ok(s.Not(a)), ok(s.Ite(a, 0, 1))},
	} {
		if slices.ContainsFunc(l, func(f int) bool { return f != l[0] }) || s.Size() != 8 {
			t.Errorf("P20.2: line %d: %v, %d nodes", i, l, s.Size())
		}
	}
	// What did not go in has left nothing: there is room for one more still.
	s = opens(t, 3, 6)
	v, ok = made(t, s, 3)
	fails(t, "and 3", s, api.ErrBudget, func() (int, api.Errno) { return s.And(v...) })
	fails(t, "or 3", s, api.ErrBudget, func() (int, api.Errno) { return s.Or(v...) })
	if f := ok(s.And(v[0], v[2])); s.Size() != 6 || ok(s.Count(f)) != 2 {
		t.Errorf("P20.2: %d, %d nodes", f, s.Size())
	}
}

// Lists that are handed in stay as they are.
func TestLists(t *testing.T) {
	s := opens(t, 5, 1000)
	v, ok := made(t, s, 5)
	l := []int{v[3], v[0], v[3], 1, v[4], v[1], v[0]}
	given := slices.Clone(l)
	f, g := ok(s.And(given...)), ok(s.Or(given[:3]...))
	if !slices.Equal(l, given) || ok(s.Count(f)) != 2 || ok(s.Count(g)) != 24 {
		t.Errorf("P20.2: %v, %d, %d", given, ok(s.Count(f)), ok(s.Count(g)))
	}
	many := slices.Repeat([]int{v[4], f, v[0], g}, 500000)
	if ok(s.And(many...)) != f || ok(s.Or(many...)) != ok(s.Or(v[4], v[0], v[3])) {
		t.Errorf("P20.2: of many")
	}
}

func TestManyVariables(t *testing.T) {
	began := time.Now()
	s := opens(t, 30, 10000)
	v, ok := made(t, s, 30)
	even := 0
	for _, x := range v {
		even = ok(s.Ite(x, ok(s.Not(even)), even))
	}
	all, one := ok(s.And(v...)), ok(s.Or(v...))
	last := make([]bool, 30)
	last[29] = true
	for f, want := range map[int]int{0: 0, 1: 1 << 30, v[0]: 1 << 29, v[29]: 1 << 29, all: 1, one: 1<<30 - 1, even: 1 << 29} {
		if n := ok(s.Count(f)); n != want {
			t.Errorf("P20.3: %d, not %d", n, want)
		}
	}
	for f, want := range map[int][]bool{1: make([]bool, 30), all: slices.Repeat([]bool{true}, 30), one: last, even: last} {
		if l, is := s.Witness(f); !slices.Equal(l, want) || !is {
			t.Errorf("P20.3: %v, not %v", l, want)
		}
	}
	// Pairs far from each other: each one more is twice as much, up to the budget.
	s = opens(t, 30, 10000)
	v, ok = made(t, s, 30)
	whole, pairs := 0, 0
	for ; pairs < 15; pairs++ {
		f, e := s.Or(whole, ok(s.And(v[pairs], v[pairs+15])))
		if e == api.ErrBudget {
			break
		}
		whole = f
	}
	if pairs < 9 || pairs > 12 {
		t.Errorf("P20.2: %d pairs", pairs)
	}
	for i := range 15 {
		at := make([]bool, 30)
		at[i], at[(i+16)%30] = true, true
		if is, e := s.Value(whole, at); is || e != api.OK {
			t.Errorf("P20.3: at %d: %v, %d", i, is, e)
		}
		at[i+15] = true
		if is, e := s.Value(whole, at); is != (i < pairs) || e != api.OK {
			t.Errorf("P20.3: at pair %d: %v, %d", i, is, e)
		}
	}
	if n := ok(s.Count(whole)); n != 1<<30-int(math.Pow(3, float64(pairs)))<<(30-2*pairs) {
		t.Errorf("P20.3: %d pairs: %d", pairs, n)
	}
	if took := time.Since(began); took > 30*time.Second {
		t.Errorf("%v", took)
	}
}

// What is on the way to a function may have many more nodes than there may be.
func TestGreatOnTheWay(t *testing.T) {
	began := time.Now()
	s := opens(t, 30, 250)
	v, ok := made(t, s, 30)
	var same []int
	for i := range 15 {
		same = append(same, ok(s.Ite(v[i], v[i+15], ok(s.Not(v[i+15])))))
	}
	fails(t, "same", s, api.ErrBudget, func() (int, api.Errno) { return s.And(same...) })
	other := ok(s.Not(same[0]))
	if f := ok(s.And(append(same, other)...)); f != 0 {
		t.Errorf("P20.2: %d", f)
	}
	if f := ok(s.And(append([]int{other}, same...)...)); f != 0 {
		t.Errorf("P20.2: %d", f)
	}
	// Each x says that y is another number; the last one says that y is great.
	s = opens(t, 30, 1000)
	v, ok = made(t, s, 30)
	y := v[20:]
	great := ok(s.Or(y[:5]...))
	var l []int
	for i, x := range v[:20] {
		var bits []int
		for k, bit := range y {
			if i>>(9-k)&1 == 0 {
				bit = ok(s.Not(bit))
			}
			bits = append(bits, bit)
		}
		l = append(l, ok(s.Not(ok(s.And(x, ok(s.And(bits...)))))))
	}
	fails(t, "numbers", s, api.ErrBudget, func() (int, api.Errno) { return s.And(l...) })
	for at := range 3 {
		if f := ok(s.And(slices.Insert(slices.Clone(l), at*10, great)...)); f != great {
			t.Errorf("P20.2: %d", f)
		}
	}
	if took := time.Since(began); took > 30*time.Second {
		t.Errorf("%v", took)
	}
}
