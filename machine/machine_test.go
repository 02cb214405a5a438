package machine_test

import (
	"fmt"
	"math"
	"slices"
	"strconv"
	"strings"
	"sync"
	"testing"
	"time"

	"bailment/api"
	"bailment/code"
	"bailment/machine"
	"bailment/num"
)

// short is the beginning of what a thing is as a text.
func short(x any) string {
	s := fmt.Sprint(x)
	return s[:min(len(s), 600)]
}

// spoil writes all over a list, with its spare room: nobody else may mind.
func spoil[T any](l []T, by T) {
	for i := range l[:cap(l)] {
		l[:cap(l)][i] = by
	}
}

// starts is a machine of code that nobody else has any more.
func starts(t *testing.T, what string, c code.Code) *machine.Machine {
	t.Helper()
	own := c
	own.Ins, own.Outs, own.Inputs = slices.Clone(c.Ins), slices.Clone(c.Outs), slices.Clone(c.Inputs)
	m, f := machine.New(own)
	if m == nil || f != api.OK {
		t.Fatalf("P18.1: %s: %s: %v, %d", what, short(c), m, f)
	}
	if !slices.Equal(own.Ins, c.Ins) || !slices.Equal(own.Outs, c.Outs) || !slices.Equal(own.Inputs, c.Inputs) {
		t.Fatalf("R5: %s: %s is changed", what, short(c))
	}
	spoil(own.Ins, code.Ins{Op: -9})
	spoil(own.Outs, -9)
	spoil(own.Inputs, -9)
	is(t, what, m, make([]int, c.Slots), 0, api.OK)
	return m
}

// is tells how a machine stands.
func is(t *testing.T, what string, m *machine.Machine, state []int, steps int, fault api.Errno) {
	t.Helper()
	for range 2 {
		l := m.State()
		if !slices.Equal(l, state) || m.Steps() != steps || m.Fault() != fault {
			t.Fatalf("P18.1: %s: %s, %d, %d, not %s, %d, %d", what, short(l), m.Steps(), m.Fault(), short(state), steps, fault)
		}
		spoil(l, -9)
	}
}

// steps tells what an instant is.
func steps(t *testing.T, what string, m *machine.Machine, in, outs, state []int) {
	t.Helper()
	before, given := m.Steps(), slices.Clone(in)
	l, f := m.Step(given)
	if !slices.Equal(l, outs) || f != api.OK {
		t.Fatalf("P18.2: %s, %v: %s, %d, not %s", what, in, short(l), f, short(outs))
	}
	if !slices.Equal(given, in) {
		t.Fatalf("R5: %s: %v is changed", what, in)
	}
	spoil(given, -9)
	spoil(l, -9)
	is(t, what, m, state, before+1, api.OK)
}

// ends tells by which fault a machine ends; behind it, it is as it was, whatever comes.
func ends(t *testing.T, what string, m *machine.Machine, in []int, fault api.Errno) {
	t.Helper()
	state, before := m.State(), m.Steps()
	for _, given := range [][]int{in, in, nil, {1}, {1, 1}, {1, 1, 1}, {1 << 40}} {
		l, f := m.Step(slices.Clone(given))
		if l != nil || f != fault {
			t.Fatalf("P18.2: %s, %v: %s, %d, not %d", what, given, short(l), f, fault)
		}
		is(t, what, m, state, before, fault)
		is(t, what, m.Copy(), state, before, fault)
	}
}

func TestNew(t *testing.T) {
	for what, c := range map[string]code.Code{
		"registers": {Regs: -1}, "many registers": {Regs: 100001}, "slots": {Slots: -1}, "many slots": {Slots: 1 << 40}, "out": {Outs: []int{0}}, "operator": {Ins: []code.Ins{{}}, Regs: 1}, "unwritten": {Ins: []code.Ins{{Op: api.OpNot}}, Regs: 1}, "input": {Ins: []code.Ins{{Op: api.OpVar}}, Regs: 1}, "slot": {Ins: []code.Ins{{Op: api.OpPre}}, Regs: 1}, "many": {Ins: slices.Repeat([]code.Ins{{Op: api.OpNum}}, 200001), Regs: 1},
	} {
		for range 2 {
			if m, f := machine.New(c); m != nil || f != api.ErrArg {
				t.Errorf("P18.1: %s: %v, %d", what, m, f)
			}
		}
	}
	for range 3 {
		m := starts(t, "nothing", code.Code{})
		steps(t, "nothing", m, nil, nil, nil)
		steps(t, "nothing", m, []int{}, nil, nil)
		ends(t, "nothing", m, []int{0}, api.ErrFrame)
	}
	m := starts(t, "sizes", code.Code{Regs: 100000, Slots: 100000})
	steps(t, "sizes", m, nil, nil, make([]int, 100000))
}

// A machine that is nil, or was not made by New.
func TestNil(t *testing.T) {
	var m *machine.Machine
	for _, in := range [][]int{nil, {}, {1}} {
		if l, f := m.Step(in); l != nil || f != api.ErrArg {
			t.Errorf("P18.1: Step of nil: %v, %d", l, f)
		}
	}
	if m.Fault() != api.ErrArg || m.State() != nil || m.Steps() != 0 || m.Copy() != nil {
		t.Errorf("P18.1: nil: %d, %v, %d, %v", m.Fault(), m.State(), m.Steps(), m.Copy())
	}
	for range 2 {
		m = new(machine.Machine)
		for _, in := range [][]int{nil, {1}, nil} {
			m.Step(in)
		}
		m.Copy().Step(nil)
		m.Fault()
		m.State()
		m.Steps()
	}
}

// ins are read from texts such as "0 in 0, 1 num 9, 2 pre 0, 3 add 0 1, store 3 0":
// the register that is written, the operator, and what it reads; of store the
// register, and the slot.
func ins(t *testing.T, text string) []code.Ins {
	t.Helper()
	known := map[string]int{
		"in": api.OpVar, "num": api.OpNum, "bool": api.OpBool, "not": api.OpNot, "neg": api.OpNeg, "and": api.OpAnd, "or": api.OpOr, "eq": api.OpEq, "lt": api.OpLt,
		"add": api.OpAdd, "sub": api.OpSub, "mul": api.OpMul, "div": api.OpDiv, "mod": api.OpMod, "arrow": api.OpArrow, "pre": api.OpPre, "if": api.OpIf,
	}
	var out []code.Ins
	for _, line := range strings.Split(text, ",") {
		var op int
		var numbers [4]int
		count := 0
		for _, w := range strings.Fields(line) {
			n, err := strconv.Atoi(w)
			switch {
			case err == nil:
				numbers[count] = n
				count++
			case w == "store":
				op = code.OpStore
			case known[w] == 0:
				t.Fatalf("%q", line)
			default:
				op = known[w]
			}
		}
		x := code.Ins{Op: op, D: numbers[0], A: numbers[1], B: numbers[2], C: numbers[3]}
		switch op {
		case api.OpVar, api.OpNum, api.OpBool, api.OpPre:
			x = code.Ins{Op: op, D: numbers[0], N: numbers[1]}
		case code.OpStore:
			x = code.Ins{Op: op, A: numbers[0], N: numbers[1]}
		}
		out = append(out, x)
	}
	return out
}

// of is a machine of such a text; it has eight registers, and inputs of type Int.
func of(t *testing.T, text string, inputs, slots int, outs ...int) *machine.Machine {
	t.Helper()
	return starts(t, text, code.Code{Regs: 8, Slots: slots, Inputs: slices.Repeat([]int{api.Int}, inputs), Outs: outs, Ins: ins(t, text)})
}

func TestExample(t *testing.T) {
	// c = 0 -> pre c + a.
	m := of(t, "0 num 0, 1 pre 0, 2 in 0, 1 add 1 2, 0 arrow 0 1, store 0 0", 1, 1, 0)
	for _, n := range []int{0, 5, 10} {
		steps(t, "example", m, []int{5}, []int{n}, []int{n})
	}
	steps(t, "example", m, []int{-20}, []int{-10}, []int{-10})
	steps(t, "example", m, []int{math.MinInt32 + 10}, []int{math.MinInt32}, []int{math.MinInt32})
	ends(t, "example", m, []int{-1}, api.ErrOver)
}

// Each instruction alone.
func TestEachInstruction(t *testing.T) {
	values := []int{0, 1, 2, -1, -7, 46341, math.MaxInt32, math.MinInt32}
	for op := api.OpNum; op <= api.OpArgs; op++ {
		operands := num.Operands(op)
		x := code.Ins{Op: op, D: 3}
		for i, field := range []*int{&x.A, &x.B, &x.C}[:max(operands, 0)] {
			*field = i
		}
		for i := range 8 * 8 * 8 * min(operands+1, 1) {
			in := []int{values[i%8], values[i/8%8], values[i/64]}
			what := fmt.Sprintf("operator %d of %v", op, in)
			m := starts(t, what, code.Code{Regs: 4, Inputs: []int{0, 0, 0}, Outs: []int{3}, Ins: append(ins(t, "0 in 0, 1 in 1, 2 in 2"), x)})
			want, fault := num.Do(op, in[0], in[1], in[2])
			if fault != api.OK {
				ends(t, what, m, in, fault)
				continue
			}
			steps(t, what, m, in, []int{want}, nil)
			steps(t, what, m, in, []int{want}, nil)
		}
	}
	for _, n := range values {
		for op, may := range map[string]bool{"num": true, "bool": n == 0 || n == 1} {
			if may {
				m := of(t, fmt.Sprint("1 ", op, " ", n), 0, 0, 1)
				steps(t, op, m, nil, []int{n}, nil)
				steps(t, op, m, nil, []int{n}, nil)
			}
		}
	}
	m := of(t, "1 in 2, 0 in 1", 3, 0, 1, 0, 1)
	steps(t, "Var", m, []int{5, 6, 1}, []int{1, 6, 1}, nil)
	steps(t, "Var", m, []int{5, -8, 0}, []int{0, -8, 0}, nil)
	m = of(t, "0 in 0, 1 in 1, 2 arrow 0 1", 2, 0, 2)
	steps(t, "Arrow", m, []int{5, 6}, []int{5}, nil)
	for i := range 3 {
		steps(t, "Arrow", m, []int{7, i}, []int{i}, nil)
	}
}

// Slots are what Stores put there; what a Pre reads is what the instant ahead left.
func TestSlots(t *testing.T) {
	for text, c := range map[string]struct {
		slots       int
		outs        []int
		told, state [][]int
	}{
		// A delay, of one instant and of two; of 5, 6 and 7.
		"0 in 0, 2 pre 0, store 0 0":                                         {1, []int{2}, [][]int{{0}, {5}, {6}}, [][]int{{5}, {6}, {7}}},
		"0 in 0, 2 pre 0, 3 pre 1, store 0 0, store 2 1":                     {2, []int{2, 3}, [][]int{{0, 0}, {5, 0}, {6, 5}}, [][]int{{5, 0}, {6, 5}, {7, 6}}},
		"0 in 0, 3 pre 1, 2 pre 0, store 3 0, store 0 1":                     {2, []int{2, 3}, [][]int{{0, 0}, {0, 5}, {5, 6}}, [][]int{{0, 5}, {5, 6}, {6, 7}}},
		"0 in 0, 2 pre 2, 3 pre 1, store 0 1":                                {3, []int{2, 3}, [][]int{{0, 0}, {0, 5}, {0, 6}}, [][]int{{0, 5, 0}, {0, 6, 0}, {0, 7, 0}}}, // slots without a Store
		"0 in 0, 1 num 9, store 0 0, 0 add 0 1":                              {1, []int{0}, [][]int{{14}, {15}, {16}}, [][]int{{5}, {6}, {7}}},                            // a Store has what its register is then
		"0 in 0, 1 num 9, 0 add 0 1, store 0 0, 0 num 4":                     {1, []int{0}, [][]int{{4}, {4}, {4}}, [][]int{{14}, {15}, {16}}},
		"0 in 0, 1 num 9, 2 sub 0 1, 0 neg 2, 1 mul 0 1":                     {0, []int{0, 2, 1}, [][]int{{4, -4, 36}, {3, -3, 27}, {2, -2, 18}}, [][]int{{}, {}, {}}}, // registers are as they were left
		"0 pre 0, 1 in 0, 2 add 0 1, 3 pre 0, store 2 0, 4 sub 2 3":          {1, []int{2, 3, 4}, [][]int{{5, 0, 5}, {11, 5, 6}, {18, 11, 7}}, [][]int{{5}, {11}, {18}}},
		"0 num 1, 1 in 0, 0 arrow 0 1, 2 pre 0, 2 arrow 1 2, store 0 0":      {1, []int{0, 2}, [][]int{{1, 5}, {6, 1}, {7, 6}}, [][]int{{1}, {6}, {7}}},
		"1 in 0, 0 pre 0, 2 not 0, store 2 0, 3 if 2 1 0, 4 and 1 2":         {1, []int{3, 4}, [][]int{{5, 1}, {1, 0}, {7, 1}}, [][]int{{1}, {0}, {1}}},
		"0 in 0, 1 pre 0, 2 arrow 0 1, 3 pre 1, store 2 1, store 0 0":        {2, []int{2, 3}, [][]int{{5, 0}, {5, 5}, {6, 5}}, [][]int{{5, 5}, {6, 5}, {7, 6}}},
		"0 in 0, 1 pre 0, 2 pre 0, 3 eq 1 2, 4 mod 0 0, store 0 0, 5 or 3 4": {1, []int{3, 5, 4}, [][]int{{1, 1, 0}, {1, 1, 0}, {1, 1, 0}}, [][]int{{5}, {6}, {7}}},
	} {
		m := of(t, text, 1, c.slots, c.outs...)
		for i := range c.told {
			steps(t, text, m, []int{5 + i}, c.told[i], c.state[i])
		}
	}
}

// An error is told behind all instructions, the least one; what it is of is 0.
func TestFaults(t *testing.T) {
	// Register 0 is the input, 1 to 3 are 0, 1 and the greatest number; slot 0 counts.
	const ahead = "0 in 0, 1 num 0, 2 num 1, 3 num 2147483647, 4 pre 0, 4 add 4 2, 5 num 5, 6 num 5, "
	const zero, over = "5 div 2 0", "7 eq 0 1, 7 add 3 7" // each at 0
	for text, c := range map[string]struct {
		in    []int // all but the last one fine
		fault api.Errno
	}{
		zero + ", store 4 0":                             {[]int{1, -1, 0}, api.ErrZero},
		"store 4 0, " + zero:                             {[]int{1, -1, 0}, api.ErrZero},
		over + ", store 4 0":                             {[]int{1, -1, 0}, api.ErrOver},
		"store 4 0, " + over:                             {[]int{1, -1, 0}, api.ErrOver},
		"6 mod 2 0, store 4 0":                           {[]int{1, -5, 0}, api.ErrZero},
		"6 neg 0, store 4 0":                             {[]int{5, math.MinInt32 + 1, math.MinInt32}, api.ErrOver},
		"6 num -1, 6 div 0 6, store 4 0":                 {[]int{math.MinInt32 + 1, math.MinInt32}, api.ErrOver},
		"6 mul 0 0, store 4 0":                           {[]int{-46340, 46340, -46341}, api.ErrOver},
		"6 sub 1 0, store 4 0":                           {[]int{math.MaxInt32, math.MinInt32}, api.ErrOver},
		"store 4 0, " + zero + ", 5 num 3":               {[]int{1, 0}, api.ErrZero}, // written over
		zero + ", 6 arrow 5 2, store 4 0":                {[]int{1, 0}, api.ErrZero}, // whichever is taken
		zero + ", 6 arrow 2 5, store 4 0":                {[]int{0}, api.ErrZero},
		zero + ", 6 if 1 5 2, store 4 0":                 {[]int{1, 0}, api.ErrZero},
		zero + ", 6 and 5 1, 6 or 5 2, store 4 0":        {[]int{1, 0}, api.ErrZero},
		zero + ", " + over + ", store 4 0":               {[]int{1, 0}, api.ErrOver}, // the least one
		over + ", " + zero + ", store 4 0":               {[]int{1, 0}, api.ErrOver},
		over + ", store 4 0, " + zero:                    {[]int{1, 0}, api.ErrOver},
		zero + ", " + over + ", " + zero + ", store 4 0": {[]int{1, 0}, api.ErrOver},
		over + ", " + zero + ", " + over + ", store 4 0": {[]int{1, 0}, api.ErrOver},
		zero + ", 5 mod 2 0, store 4 0":                  {[]int{1, 0}, api.ErrZero},
		zero + ", 7 add 3 0, store 4 0":                  {[]int{-1, 0}, api.ErrZero}, // the first instant
		zero + ", 7 add 0 3, store 4 0":                  {[]int{-1, 1}, api.ErrOver},
		zero + ", 5 add 5 3, store 4 0":                  {[]int{-1, 0}, api.ErrZero}, // 0, so that nothing more comes of it
		zero + ", 5 sub 2 5, 5 add 5 3, store 4 0":       {[]int{1, 0}, api.ErrOver},  // 0, so that more does
		over + ", 7 div 2 7, store 4 0":                  {[]int{1, 0}, api.ErrOver},
	} {
		m := of(t, ahead+text, 1, 1, 6, 5)
		for i, n := range c.in {
			if i == len(c.in)-1 {
				ends(t, text, m, []int{n}, c.fault)
				break
			}
			if l, f := m.Step([]int{n}); f != api.OK || len(l) != 2 {
				t.Fatalf("P18.2: %s: %v, %d", text, l, f)
			}
			is(t, text, m, []int{i + 1}, i+1, api.OK)
		}
	}
}

// Numbers that may not be inputs end it, ahead of what would be reckoned.
func TestFrames(t *testing.T) {
	c := code.Code{Regs: 4, Slots: 1, Inputs: []int{api.Int, api.Bool, 0}, Outs: []int{2}, Ins: ins(t, "0 in 0, 1 in 1, 3 in 2, 2 div 0 3, store 2 0")}
	for _, bad := range [][]int{
		nil, {}, {6}, {6, 1}, {6, 1, 2, 2}, {6, 1, 2, 2, 0}, {6, 2, 2}, {6, -1, 2}, {6, 1 << 31, 2}, {6, 1<<32 + 1, 2}, {6, 1 << 32, 2}, {1 << 31, 1, 2}, {-1<<31 - 1, 1, 2}, {math.MaxInt, 1, 2}, {math.MinInt, 1, 2}, {1<<32 + 6, 1, 2}, {6, 1, 1 << 31}, {6, 1, -1<<31 - 1}, {6, 1, math.MinInt},
		// What would be an error of operators, as well.
		{6, 2, 0}, {6, -1, 0}, {6, 1, 0, 0}, {math.MinInt32, math.MaxInt32, -1},
	} {
		m := starts(t, "frame", c)
		ends(t, "frame", m.Copy(), bad, api.ErrFrame)
		steps(t, "frame", m, []int{6, 1, 2}, []int{3}, []int{3})
		steps(t, "frame", m, []int{8, 0, -2}, []int{-4}, []int{-4})
		ends(t, "frame", m, bad, api.ErrFrame)
	}
	m := starts(t, "edges", c)
	steps(t, "edges", m, []int{math.MaxInt32, 0, 1}, []int{math.MaxInt32}, []int{math.MaxInt32})
	steps(t, "edges", m, []int{math.MinInt32, 1, math.MinInt32}, []int{1}, []int{1})
	steps(t, "edges", m, []int{math.MinInt32, 1, math.MaxInt32}, []int{-1}, []int{-1})
	ends(t, "edges", m, []int{math.MinInt32, 1, -1}, api.ErrOver)
	// Only of type Bool are there but 0 and 1.
	c = code.Code{Regs: 1, Inputs: []int{-5, 3, math.MaxInt}, Outs: []int{0, 0}, Ins: ins(t, "0 in 1")}
	m = starts(t, "types", c)
	steps(t, "types", m, []int{math.MinInt32, -9, 2}, []int{-9, -9}, nil)
	// An input that nobody reads is one.
	c = code.Code{Inputs: []int{api.Bool}}
	m = starts(t, "unread", c)
	steps(t, "unread", m, []int{1}, nil, nil)
	ends(t, "unread", m, []int{2}, api.ErrFrame)
}

// A copy is of its own, whenever it is made.
func TestCopy(t *testing.T) {
	const text = "0 in 0, 1 pre 0, 2 add 0 1, 3 num 100, 4 sub 3 2, 4 div 3 4, 0 arrow 0 2, 5 pre 1, store 0 0, store 1 1"
	m := of(t, text, 1, 2, 0, 5)
	k := m.Copy()
	is(t, "fresh", k, []int{0, 0}, 0, api.OK)
	steps(t, "the first one", m, []int{5}, []int{5, 0}, []int{5, 0})
	is(t, "fresh", k, []int{0, 0}, 0, api.OK)
	steps(t, "fresh", k, []int{50}, []int{50, 0}, []int{50, 0})
	is(t, "the first one", m, []int{5, 0}, 1, api.OK)
	l := m.Copy()
	steps(t, "second", l, []int{6}, []int{11, 0}, []int{11, 5})
	steps(t, "the first one", m, []int{7}, []int{12, 0}, []int{12, 5})
	steps(t, "second", l, []int{1}, []int{12, 5}, []int{12, 11})
	is(t, "copy of a copy", l.Copy(), []int{12, 11}, 3, api.OK)
	steps(t, "copy of a copy", l.Copy(), []int{2}, []int{14, 11}, []int{14, 12})
	ends(t, "second", l, []int{88}, api.ErrZero)
	is(t, "the first one", m, []int{12, 5}, 2, api.OK)
	is(t, "fresh", k, []int{50, 0}, 1, api.OK)
	// A copy of one that has ended has ended; it is another one all the same.
	x := l.Copy()
	if x == l || m.Copy() == m {
		t.Error("P18.1: a copy is not of its own")
	}
	ends(t, "ended", x, []int{1}, api.ErrZero)
	k2 := k.Copy()
	ends(t, "fresh", k, nil, api.ErrFrame)
	steps(t, "ahead of its end", k2, []int{1}, []int{51, 0}, []int{51, 50})
}

// Copies share nothing that a step writes, so they may step at one time.
func TestCopiesAtOneTime(t *testing.T) {
	m := of(t, "0 in 0, 1 pre 0, 2 add 0 1, 3 num 0, 3 add 3 2, 4 add 3 3, 5 sub 4 2, 5 mod 5 0, store 2 0", 1, 1, 2, 4, 5)
	steps(t, "first", m, []int{1}, []int{1, 2, 0}, []int{1})
	var all sync.WaitGroup
	for n := range 8 {
		k := m.Copy()
		all.Go(func() {
			for i := range 20000 {
				sum := 1 + (i+1)*(n+1)
				if l, f := k.Step([]int{n + 1}); f != api.OK || !slices.Equal(l, []int{sum, 2 * sum, sum % (n + 1)}) {
					t.Errorf("P18.1: copy %d: %v, %d, not of %d", n, l, f, sum)
					return
				}
			}
		})
	}
	all.Wait()
	is(t, "first", m, []int{1}, 1, api.OK)
}

// Many instants, and many slots: the state is of one size.
func TestLongRuns(t *testing.T) {
	began := time.Now()
	m := of(t, "0 pre 0, 1 num 1, 0 add 0 1, store 0 0", 0, 1, 0)
	for i := range 200000 {
		l, f := m.Step(nil)
		if f != api.OK || len(l) != 1 || l[0] != i+1 {
			t.Fatalf("P18.2: at %d: %v, %d", i, l, f)
		}
	}
	is(t, "counter", m, []int{200000}, 200000, api.OK)
	// A row of delays, of as many instructions as there may be.
	const size = 100000
	c := code.Code{Regs: size, Slots: size, Inputs: []int{api.Int}, Outs: []int{0, 1, size - 1}}
	for i := range size {
		x := code.Ins{Op: api.OpPre, D: i, N: i}
		if i == 0 {
			x = code.Ins{Op: api.OpVar}
		}
		c.Ins = append(c.Ins, x)
	}
	for i := range size - 1 {
		c.Ins = append(c.Ins, code.Ins{Op: code.OpStore, A: i, N: i + 1})
	}
	m = starts(t, "delays", c)
	for i := range 50 {
		l, f := m.Step([]int{i + 7})
		if f != api.OK || !slices.Equal(l, []int{i + 7, max(i+6, 6) * min(i, 1), 0}) {
			t.Fatalf("P18.2: at %d: %v, %d", i, l, f)
		}
	}
	state := m.State()
	if len(state) != size || state[1] != 56 || state[50] != 7 || state[51] != 0 || state[0] != 0 {
		t.Errorf("P18.2: %v", state[:60])
	}
	if took := time.Since(began); took > time.Minute {
		t.Errorf("%v", took)
	}
}
