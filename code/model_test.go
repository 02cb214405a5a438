package code_test

import (
	"math"
	"math/rand"
	"slices"
	"strings"
	"testing"

	"bailment/api"
	"bailment/code"
	"bailment/flat"
	"bailment/norm"
	"bailment/num"
	"bailment/past"
	"bailment/tree"
)

// run is what the chapter says that instructions do: what Outs are, instant by
// instant, up to the first one at which an operator has an error; and the least
// one there. Its state is the slots, as many as the code says, ahead of all instants.
func run(c code.Code, in [][]int) ([][]int, api.Errno) {
	slots := make([]int, c.Slots)
	var rows [][]int
	for t, given := range in {
		registers := make([]int, c.Regs)
		var faults []api.Errno
		for _, x := range c.Ins {
			switch x.Op {
			case api.OpVar:
				registers[x.D] = given[x.N]
			case api.OpNum, api.OpBool:
				registers[x.D] = x.N
			case api.OpPre:
				registers[x.D] = slots[x.N]
			case code.OpStore:
				slots[x.N] = registers[x.A]
			case api.OpArrow:
				registers[x.D] = registers[[]int{x.A, x.B}[min(t, 1)]]
			default:
				v, f := num.Do(x.Op, registers[x.A], registers[x.B], registers[x.C])
				registers[x.D] = v
				if f != api.OK {
					faults = append(faults, f)
				}
			}
		}
		if len(faults) > 0 {
			return rows, slices.Min(faults)
		}
		var row []int
		for _, r := range c.Outs {
			row = append(row, registers[r])
		}
		rows = append(rows, row)
	}
	return rows, api.OK
}

// place is an operator at an instant.
type place struct{ op, instant int }

// telling is a net that is asked what its operators are, in whatever order.
type telling struct {
	norm.Net
	in    [][]int
	known map[place]int
	fault map[place]api.Errno
}

func (n *telling) value(i, t int) int {
	at := place{i, t}
	if x, ok := n.known[at]; ok {
		return x
	}
	x, f := n.reckoned(n.Ops[i], t)
	n.known[at], n.fault[at] = x, f
	return x
}

func (n *telling) reckoned(x norm.Op, t int) (int, api.Errno) {
	switch {
	case x.Op == api.OpVar:
		return n.in[t][x.N], api.OK
	case x.Op == api.OpNum || x.Op == api.OpBool:
		return x.N, api.OK
	case x.Op == api.OpPre && t == 0:
		return 0, api.OK
	case x.Op == api.OpPre:
		return n.value(x.A, t-1), api.OK
	case x.Op == api.OpArrow && t == 0:
		return n.value(x.A, t), api.OK
	case x.Op == api.OpArrow:
		return n.value(x.B, t), api.OK
	}
	var l [3]int
	for i, k := range []int{x.A, x.B, x.C}[:num.Operands(x.Op)] {
		l[i] = n.value(k, t)
	}
	return num.Do(x.Op, l[0], l[1], l[2])
}

// runs tells that code tells what its net does.
func runs(t *testing.T, what string, n norm.Net, told []int, c code.Code, in [][]int) api.Errno {
	t.Helper()
	m := &telling{Net: n, in: in, known: map[place]int{}, fault: map[place]api.Errno{}}
	var want [][]int
	fault := api.OK
	for at := range in {
		var faults []api.Errno
		for i := range n.Ops {
			m.value(i, at)
			if f := m.fault[place{i, at}]; f != api.OK {
				faults = append(faults, f)
			}
		}
		if len(faults) > 0 {
			fault = slices.Min(faults)
			break
		}
		var row []int
		for _, k := range told {
			row = append(row, m.value(n.Roots[k], at))
		}
		want = append(want, row)
	}
	if rows, f := run(c, in); f != fault || !slices.EqualFunc(rows, want, slices.Equal) {
		t.Fatalf("P16.2: %s: %s, told %v: %s: %v, %d, not %v, %d", what, short(n), told, short(c), rows, f, want, fault)
	}
	return fault
}

// tells tells that code tells what streams are.
func tells(t *testing.T, l []api.Stream, told []int, c code.Code, in [][]int) api.Errno {
	t.Helper()
	want, fault := flat.Run(l, in)
	rows, f := run(c, in)
	if f != fault || len(rows) != len(want) {
		t.Fatalf("P16.2: %v: %v, %d, not %v, %d", l, rows, f, want, fault)
	}
	for at, row := range rows {
		for i, k := range told {
			if row[i] != want[at][k] {
				t.Fatalf("P16.2: %v, told %v: at %d %v, not %v", l, told, at, row, want[at])
			}
		}
	}
	return fault
}

// some is a net of operators that are drawn, most of them in no order.
func some(r *rand.Rand, size int) norm.Net {
	n := norm.Net{Inputs: make([]int, 1+r.Intn(2))}
	at := r.Perm(size)
	n.Ops = make([]norm.Op, size)
	for i, k := range at {
		op := 1 + r.Intn(api.OpArrow)
		if r.Intn(3) == 0 {
			op = []int{api.OpPre, api.OpPre, api.OpIf, api.OpArrow}[r.Intn(4)]
		}
		if r.Intn(4) > 0 && (op == api.OpDiv || op == api.OpMod || op == api.OpMul || i == 0) {
			op = api.OpVar
		}
		var operands []int
		for range max(num.Operands(op), map[int]int{api.OpArrow: 2, api.OpPre: 1}[op]) {
			// Of those ahead, so that it does not go round; a Pre's is any one.
			if op == api.OpPre || i == 0 {
				operands = append(operands, at[r.Intn(size)])
			} else {
				operands = append(operands, at[r.Intn(i)])
			}
		}
		number := 0
		if op <= api.OpVar {
			number = r.Intn(map[int]int{api.OpVar: len(n.Inputs), api.OpNum: 5, api.OpBool: 2}[op])
		}
		n.Ops[k] = o(op, number, operands...)
	}
	for range r.Intn(5) {
		n.Roots = append(n.Roots, r.Intn(size))
	}
	return n
}

func TestManyNets(t *testing.T) {
	r := rand.New(rand.NewSource(162))
	seen := map[api.Errno]int{}
	fewer := 0
	for range 40000 {
		n := some(r, 1+r.Intn(20))
		var told []int
		for range r.Intn(4) * min(len(n.Roots), 1) {
			told = append(told, r.Intn(len(n.Roots)))
		}
		if f := norm.Check(n); f != api.OK {
			fails(t, "some", n, told, f)
			seen[f]++
			continue
		}
		var in [][]int
		for range r.Intn(9) {
			in = append(in, []int{r.Intn(9) - 4, []int{1, 2, 3, r.Intn(2), math.MaxInt32, math.MinInt32}[r.Intn(6)]})
		}
		c := makes(t, "some", n, told)
		seen[runs(t, "some", n, told, c, in)]++
		if c.Regs < len(n.Ops) {
			fewer++
		}
	}
	if seen[api.OK] < 15000 || seen[api.ErrOver] < 1000 || seen[api.ErrZero] < 300 || seen[api.ErrCycle] < 300 || fewer < 20000 {
		t.Error(seen, fewer)
	}
}

// expression is one of some streams.
func expression(r *rand.Rand, names []string, deep int) api.Expr {
	if deep <= 1 || r.Intn(6) == 0 {
		if r.Intn(4) == 0 {
			return tree.Join(api.OpNum, r.Intn(4), "")
		}
		return tree.Join(api.OpVar, 0, names[r.Intn(len(names))])
	}
	op := api.OpNot + r.Intn(api.OpIf-api.OpNot+1)
	if r.Intn(3) == 0 {
		op = []int{api.OpPre, api.OpArrow}[r.Intn(2)]
	}
	if r.Intn(6) == 0 {
		op = []int{api.OpDiv, api.OpMod, api.OpMul}[r.Intn(3)]
	}
	n := 0
	if op == api.OpWithin {
		n = r.Intn(4)
	}
	var parts []api.Expr
	for range tree.Kids(api.Node{Op: op}) {
		parts = append(parts, expression(r, names, deep-1))
	}
	return tree.Join(op, n, "", parts...)
}

// Streams with all operators, over many instants: what code tells is what they
// are, and what it keeps is of one size.
func TestManyStreams(t *testing.T) {
	r := rand.New(rand.NewSource(163))
	seen := map[api.Errno]int{}
	for range 15000 {
		var l []api.Stream
		names := strings.Fields("a b c d e f")[:2+r.Intn(5)]
		for i, name := range names {
			x := api.Stream{Name: name, Type: api.Int}
			if i > 1 {
				x.E = expression(r, names[:i], 1+r.Intn(4))
			}
			l = append(l, x)
		}
		r.Shuffle(len(l), func(i, j int) { l[i], l[j] = l[j], l[i] })
		free, f := past.Free(l)
		n, f2 := norm.Make(free)
		if f != api.OK || f2 != api.OK {
			t.Fatal(l, f, f2)
		}
		told := r.Perm(len(l))[:r.Intn(len(l)+1)]
		c := makes(t, "streams", n, told)
		var in [][]int
		for range []int{3, 12, 60}[r.Intn(3)] {
			in = append(in, []int{r.Intn(7) - 2, r.Intn(4)})
		}
		if r.Intn(4) == 0 {
			in[r.Intn(len(in))][r.Intn(2)] = math.MaxInt32
		}
		seen[tells(t, l, told, c, in)]++
	}
	if seen[api.OK] < 5000 || seen[api.ErrOver] < 100 || seen[api.ErrZero] < 1000 {
		t.Error(seen)
	}
}

// Nothing that is handed in makes a call panic.
func TestAnything(t *testing.T) {
	r := rand.New(rand.NewSource(164))
	draw := func() int {
		return []int{-1, -1, 0, 0, r.Intn(4), r.Intn(9) - 2, math.MinInt, math.MaxInt}[r.Intn(8)]
	}
	seen := map[api.Errno]int{}
	for range 100000 {
		var n norm.Net
		var c code.Code
		var told []int
		for range r.Intn(4) {
			n.Ops = append(n.Ops, norm.Op{Op: r.Intn(32) - 1, A: draw(), B: draw(), C: draw(), N: r.Intn(2) * draw()})
			c.Ins = append(c.Ins, code.Ins{Op: r.Intn(32) - 1, D: draw(), A: r.Intn(2) * draw(), B: r.Intn(2) * draw(), C: r.Intn(2) * draw(), N: draw()})
		}
		for range r.Intn(3) * r.Intn(2) {
			n.Roots = append(n.Roots, draw())
			told = append(told, draw())
			c.Outs = append(c.Outs, draw())
		}
		n.Inputs, c.Inputs = make([]int, r.Intn(3)), make([]int, r.Intn(3))
		c.Regs, c.Slots = draw(), draw()
		checks(t, "anything", c, checked(c))
		want := norm.Check(n)
		if want == api.OK && slices.ContainsFunc(told, func(i int) bool { return i < 0 || i >= len(n.Roots) }) {
			want = api.ErrArg
		}
		if want != api.OK {
			fails(t, "anything", n, told, want)
		} else {
			makes(t, "anything", n, told)
		}
		seen[want]++
		if t.Failed() {
			return
		}
	}
	if seen[api.OK] < 5000 || seen[api.ErrArg] < 10000 {
		t.Error(seen)
	}
}
