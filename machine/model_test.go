package machine_test

import (
	"math"
	"math/rand"
	"slices"
	"strings"
	"testing"

	"bailment/api"
	"bailment/cause"
	"bailment/code"
	"bailment/flat"
	"bailment/inits"
	"bailment/machine"
	"bailment/names"
	"bailment/norm"
	"bailment/num"
	"bailment/past"
	"bailment/types"
)

// place is an instruction at an instant.
type place struct{ at, instant int }

// telling is code without registers and slots: what an instruction reads is
// asked of the one that wrote it last, and what a slot is of its Store, an
// instant back.
type telling struct {
	code.Code
	in    [][]int
	known map[place]int
	fault map[place]api.Errno
}

func tell(c code.Code, in [][]int) *telling {
	return &telling{c, in, map[place]int{}, map[place]api.Errno{}}
}

// read is what a register is ahead of an instruction.
func (c *telling) read(at, register, t int) int {
	for at--; c.Ins[at].Op == code.OpStore || c.Ins[at].D != register; at-- {
	}
	return c.value(at, t)
}

// slot is what a slot is behind an instant.
func (c *telling) slot(n, t int) int {
	for at, x := range c.Ins {
		if x.Op == code.OpStore && x.N == n && t >= 0 {
			return c.read(at, x.A, t)
		}
	}
	return 0
}

func (c *telling) value(at, t int) int {
	k := place{at, t}
	if _, ok := c.known[k]; !ok {
		c.known[k], c.fault[k] = c.reckoned(at, t)
	}
	return c.known[k]
}

func (c *telling) reckoned(at, t int) (int, api.Errno) {
	x := c.Ins[at]
	switch x.Op {
	case api.OpVar:
		return c.in[t][x.N], api.OK
	case api.OpNum, api.OpBool:
		return x.N, api.OK
	case api.OpPre:
		return c.slot(x.N, t-1), api.OK
	case api.OpArrow:
		return c.read(at, []int{x.A, x.B}[min(t, 1)], t), api.OK
	}
	var l [3]int
	for i, r := range []int{x.A, x.B, x.C}[:num.Operands(x.Op)] {
		l[i] = c.read(at, r, t)
	}
	return num.Do(x.Op, l[0], l[1], l[2])
}

// ended is the fault of an instant.
func (c *telling) ended(t int) api.Errno {
	if len(c.in[t]) != len(c.Inputs) {
		return api.ErrFrame
	}
	for i, n := range c.in[t] {
		if n != int(int32(n)) || c.Inputs[i] == api.Bool && n>>1 != 0 {
			return api.ErrFrame
		}
	}
	var faults []api.Errno
	for at, x := range c.Ins {
		if x.Op == code.OpStore {
			continue
		}
		c.value(at, t)
		if f := c.fault[place{at, t}]; f != api.OK {
			faults = append(faults, f)
		}
	}
	if len(faults) == 0 {
		return api.OK
	}
	return slices.Min(faults)
}

// runs holds a machine against what is told of its code.
func runs(t *testing.T, c code.Code, in [][]int) api.Errno {
	t.Helper()
	m, said, state := starts(t, "some", c), tell(c, in), make([]int, c.Slots)
	for i, given := range in {
		k := m.Copy()
		if f := said.ended(i); f != api.OK {
			ends(t, short(c), m, given, f)
			is(t, "copy", k, state, i, api.OK)
			ends(t, short(c), k, given, f)
			return f
		}
		var outs []int
		for _, r := range c.Outs {
			outs = append(outs, said.read(len(c.Ins), r, i))
		}
		before := state
		state = nil
		for n := range c.Slots {
			state = append(state, said.slot(n, i))
		}
		steps(t, short(c), m, given, outs, state)
		is(t, "copy", k, before, i, api.OK)
		if i%3 == 1 {
			steps(t, short(c), k, given, outs, state)
			m = k
		}
	}
	return api.OK
}

// some is code that may be.
func some(r *rand.Rand) code.Code {
	c := code.Code{Regs: 1 + r.Intn(7), Slots: r.Intn(4)}
	for range r.Intn(4) {
		c.Inputs = append(c.Inputs, []int{api.Bool, api.Int, api.Int, 0}[r.Intn(4)])
	}
	var wrote, stored []int
	size := r.Intn(20)
	for i := range size {
		x := code.Ins{Op: 1 + r.Intn(api.OpIf)}
		if r.Intn(3) == 0 {
			x.Op = []int{api.OpPre, code.OpStore, api.OpArrow, api.OpVar}[r.Intn(4)]
		}
		if i > size*2/3 && r.Intn(3) == 0 {
			x.Op = code.OpStore
		}
		operands := num.Operands(x.Op)
		if x.Op == api.OpArrow {
			operands = 2
		}
		switch {
		case x.Op == api.OpPre && c.Slots > 0 && len(stored) == 0:
			x.N = r.Intn(c.Slots)
		case x.Op == code.OpStore && c.Slots > 0 && len(wrote) > 0:
			x.A, x.N = wrote[r.Intn(len(wrote))], r.Intn(c.Slots)
			if !slices.Contains(stored, x.N) {
				stored = append(stored, x.N)
				c.Ins = append(c.Ins, x)
			}
			continue
		case x.Op == api.OpVar && len(c.Inputs) > 0:
			x.N = r.Intn(len(c.Inputs))
		case x.Op == api.OpNum:
			x.N = []int{0, 1, 2, -3, 7, math.MaxInt32, math.MinInt32}[r.Intn(7)]
		case x.Op == api.OpBool:
			x.N = r.Intn(2)
		case operands > 0 && len(wrote) > 0:
			for _, field := range []*int{&x.A, &x.B, &x.C}[:operands] {
				*field = wrote[r.Intn(len(wrote))]
			}
		default:
			continue
		}
		x.D = r.Intn(c.Regs)
		wrote = append(wrote, x.D)
		c.Ins = append(c.Ins, x)
	}
	for range r.Intn(4) * min(len(wrote), 1) {
		c.Outs = append(c.Outs, wrote[r.Intn(len(wrote))])
	}
	return c
}

// frames are instants' inputs of those types, most of them such as may be.
func frames(r *rand.Rand, kinds []int, size int) [][]int {
	var in [][]int
	for range size {
		row := []int{}
		for _, kind := range kinds {
			n := []int{0, 1, 2, -3, 5, 9, r.Intn(50), math.MaxInt32}[r.Intn(8)]
			if kind == api.Bool {
				n = r.Intn(2)
			}
			row = append(row, n)
		}
		switch r.Intn(60) {
		case 0:
			row = append(row, 1)
		case 1:
			row = row[:max(len(row)-1, 0)]
		case 2:
			if len(row) > 0 {
				row[r.Intn(len(row))] = []int{2, -1, 1 << 31, -1<<31 - 1, math.MaxInt}[r.Intn(5)]
			}
		}
		in = append(in, row)
	}
	return in
}

func TestManyCodes(t *testing.T) {
	r := rand.New(rand.NewSource(181))
	seen := map[api.Errno]int{}
	for range 60000 {
		c := some(r)
		if code.Check(c) != api.OK {
			t.Fatal(c)
		}
		seen[runs(t, c, frames(r, c.Inputs, r.Intn(8)))]++
	}
	for f, least := range map[api.Errno]int{api.OK: 20000, api.ErrOver: 500, api.ErrZero: 2000, api.ErrFrame: 2000} {
		if seen[f] < least {
			t.Errorf("error %d: seen %d times", f, seen[f])
		}
	}
}

// writer writes nodes that mean something, as texts.
type writer struct {
	r       *rand.Rand
	nodes   []api.Unit
	streams []api.Param // of the node that is written
	fault   int         // one of how many things is wrong; 0: none is
}

func (w *writer) one(l ...string) string { return l[w.r.Intn(len(l))] }

func (w *writer) isRare() bool { return w.fault > 0 && w.r.Intn(w.fault) == 0 }

func (w *writer) kind() int { return []int{api.Bool, api.Int}[w.r.Intn(2)] }

func word(kind int) string { return map[int]string{api.Bool: "bool", api.Int: "int"}[kind] }

// leaf is a number, a truth, or one of some streams.
func (w *writer) leaf(kind int, reads []api.Param) string {
	var l []string
	for _, p := range reads {
		if p.Type == kind || w.isRare() {
			l = append(l, p.Name)
		}
	}
	switch {
	case w.isRare():
		return "nobody"
	case len(l) > 0 && w.r.Intn(4) > 0:
		return w.one(l...)
	case kind == api.Bool:
		return w.one("true", "false")
	}
	return w.one("0", "1", "2", "7", "2147483647")
}

// expr is from the beginning on, and needs no streams but those that it reads.
func (w *writer) expr(kind int, deep int, reads []api.Param) string {
	of := func(kind int) string { return w.expr(kind, deep-1, reads) }
	if deep <= 1 || w.r.Intn(6) == 0 {
		return w.leaf(kind, reads)
	}
	if w.isRare() {
		return "(pre " + of(kind) + ")"
	}
	switch w.r.Intn(8) {
	case 0:
		return "(" + of(kind) + " -> " + w.late(kind, deep-1, reads) + ")"
	case 1:
		return "(if " + of(api.Bool) + " then " + of(kind) + " else " + of(kind) + ")"
	case 2:
		if s := w.call(kind, of); s != "" {
			return s
		}
	case 3:
		if kind == api.Bool {
			k := w.kind()
			return "(" + of(k) + w.one(" = ", " <> ") + of(k) + ")"
		}
		return "(- " + of(kind) + ")"
	case 4:
		if kind == api.Bool {
			return "(" + of(api.Int) + w.one(" < ", " <= ", " > ", " >= ") + of(api.Int) + ")"
		}
	case 5, 6:
		if kind == api.Bool {
			// Prev needs nothing at the same instant.
			return w.one("(once "+of(kind)+")", "(hist "+of(kind)+")", "(not "+of(kind)+")", "(prev "+w.expr(kind, deep-1, w.streams)+")", "(within "+w.one("0", "1", "3")+" "+of(kind)+")", "("+of(kind)+" since "+of(kind)+")")
		}
	}
	if kind == api.Bool {
		return "(" + of(kind) + w.one(" and ", " or ", " xor ", " => ") + of(kind) + ")"
	}
	return "(" + of(kind) + w.one(" + ", " - ", " + ", " - ", " * ", " div ", " mod ") + of(kind) + ")"
}

// late may be from the instant behind the beginning on.
func (w *writer) late(kind int, deep int, reads []api.Param) string {
	switch {
	case deep <= 1 || w.r.Intn(8) == 0:
		return w.expr(kind, deep, reads)
	case w.r.Intn(2) == 0:
		return "(pre " + w.expr(kind, deep-1, w.streams) + ")"
	case kind == api.Bool:
		return "(" + w.late(kind, deep-1, reads) + w.one(" and ", " or ", " xor ") + w.late(kind, deep-1, reads) + ")"
	}
	return "(" + w.late(kind, deep-1, reads) + w.one(" + ", " - ", " + ", " div ") + w.late(kind, deep-1, reads) + ")"
}

// call is one of a node ahead, if there is one of that type.
func (w *writer) call(kind int, of func(kind int) string) string {
	for _, i := range w.r.Perm(len(w.nodes)) {
		u := w.nodes[i]
		if u.Out.Type != kind && !w.isRare() {
			continue
		}
		var args []string
		for _, p := range u.In {
			args = append(args, of(p.Type))
		}
		return u.Name + "(" + strings.Join(args, ", ") + ")"
	}
	return ""
}

func (w *writer) params(l ...string) []api.Param {
	var out []api.Param
	for _, name := range l {
		out = append(out, api.Param{Name: name, Type: w.kind()})
	}
	return out
}

// heads are params as a text, what stands between them, and behind each one.
func heads(l []api.Param) string {
	var out []string
	for _, p := range l {
		out = append(out, p.Name+": "+word(p.Type))
	}
	return strings.Join(out, "; ")
}

// node is one that may call those ahead of it.
func (w *writer) node(name string) string {
	u := api.Unit{Name: name, In: w.params([]string{"a", "b", "c"}[:w.r.Intn(4)]...), Out: w.params("o")[0], Vars: w.params([]string{"x", "y"}[:w.r.Intn(3)]...)}
	own := append([]api.Param{u.Out}, u.Vars...)
	w.streams = append(slices.Clone(u.In), own...)
	w.r.Shuffle(len(own), func(i, j int) { own[i], own[j] = own[j], own[i] })
	reads := slices.Clone(u.In)
	var equations []string
	for _, p := range own {
		if w.isRare() {
			reads = w.streams
		}
		equations = append(equations, p.Name+" = "+w.expr(p.Type, 2+w.r.Intn(4), reads)+"; ")
		reads = append(slices.Clone(reads), p)
	}
	w.r.Shuffle(len(equations), func(i, j int) { equations[i], equations[j] = equations[j], equations[i] })
	contract, vars := "", ""
	if w.r.Intn(5) == 0 {
		ahead := w.nodes
		w.nodes = nil // nothing is called there
		contract = "contract ghost g: int = " + w.expr(api.Int, 3, w.streams) + "; guarantee " + w.expr(api.Bool, 3, w.streams) + "; end "
		w.nodes = ahead
	}
	if len(u.Vars) > 0 {
		vars = "var " + heads(u.Vars) + "; "
	}
	w.nodes = append(w.nodes, u)
	return "node " + name + "(" + heads(u.In) + ") returns (" + heads([]api.Param{u.Out}) + ") " + contract + vars + "let " + strings.Join(equations, "") + "tel "
}

// why is the fault of a program, by the calls of the layers below, one by one.
func why(p api.Prog, node string, told []string) api.Errno {
	whole, f := names.Resolve(p)
	for _, f := range []api.Fault{f, types.Check(whole), inits.Check(whole), cause.Check(whole)} {
		if f.Code != api.OK {
			return f.Code
		}
	}
	l, e := flat.Make(p, node)
	if e != api.OK {
		return e
	}
	for _, name := range told {
		if !slices.ContainsFunc(l, func(s api.Stream) bool { return s.Name == name }) {
			return api.ErrName
		}
	}
	if l, e = past.Free(l); e != api.OK {
		return e
	}
	_, e = norm.Make(l)
	return e
}

// follows holds what a program's machine tells against what its streams are.
func follows(t *testing.T, what string, p api.Prog, node string, told []string, in [][]int) api.Errno {
	t.Helper()
	l, _ := flat.Make(p, node)
	want, fault := flat.Run(l, in)
	c := compiles(t, what, p, node, told...)
	m := starts(t, what, c)
	for i, given := range in {
		outs, f := m.Step(given)
		if len(m.State()) != c.Slots {
			t.Fatalf("P18.4: %s: %d slots of %d", what, len(m.State()), c.Slots)
		}
		if i >= len(want) {
			if f != fault || outs != nil {
				t.Fatalf("P18.4: %s, %v: at %d: %v, %d, not %d", what, in, i, outs, f, fault)
			}
			continue
		}
		if f != api.OK || len(outs) != len(told) {
			t.Fatalf("P18.4: %s, %v: at %d: %v, %d", what, in, i, outs, f)
		}
		for k, name := range told {
			if outs[k] != want[i][flat.Find(l, name)] {
				t.Fatalf("P18.4: %s, %v: at %d: %q is %d, not %d", what, in, i, name, outs[k], want[i][flat.Find(l, name)])
			}
		}
	}
	if m.Steps() != len(want) || m.Fault() != fault {
		t.Fatalf("P18.4: %s, %v: %d instants, %d, not %d, %d", what, in, m.Steps(), m.Fault(), len(want), fault)
	}
	return fault
}

func TestManyPrograms(t *testing.T) {
	r := rand.New(rand.NewSource(182))
	faults, ran := map[api.Errno]int{}, map[api.Errno]int{}
	for i := range 12000 {
		w := &writer{r: r, fault: []int{0, 0, 40}[i%3]}
		text, name := "", ""
		for k := range 1 + r.Intn(4) {
			name = string(rune('p' + k))
			text += w.node(name)
		}
		if len(text) > 20000 {
			continue
		}
		p := source(t, text+"main "+name+";")
		l, _ := flat.Make(p, name)
		told := []string{}
		for range r.Intn(6) * min(len(l), 1) {
			told = append(told, l[r.Intn(len(l))].Name)
		}
		if w.fault > 0 && r.Intn(4) == 0 {
			told = append(told, "nobody")
		}
		want := why(p, name, told)
		faults[want]++
		if want != api.OK {
			compilesNot(t, text, p, name, told, want)
			if w.fault == 0 && want != api.ErrMany {
				t.Fatalf("%s: %d", text, want)
			}
			continue
		}
		var kinds []int
		for _, x := range w.nodes[len(w.nodes)-1].In {
			kinds = append(kinds, x.Type)
		}
		ran[follows(t, text, p, name, told, frames(r, kinds, r.Intn(30)))]++
		if t.Failed() {
			return
		}
	}
	for f, least := range map[api.Errno]int{api.OK: 6000, api.ErrName: 500, api.ErrType: 200, api.ErrInit: 100, api.ErrCycle: 10} {
		if faults[f] < least {
			t.Errorf("program's error %d: seen %d times", f, faults[f])
		}
	}
	for f, least := range map[api.Errno]int{api.OK: 500, api.ErrOver: 500, api.ErrZero: 500, api.ErrFrame: 200} {
		if ran[f] < least {
			t.Errorf("run's error %d: seen %d times", f, ran[f])
		}
	}
}

// Nothing that is handed in makes a call panic.
func TestAnything(t *testing.T) {
	r := rand.New(rand.NewSource(183))
	draw := func() int {
		return []int{-1, 0, 0, 0, 1, 2, r.Intn(32), math.MinInt, math.MaxInt}[r.Intn(9)]
	}
	seen := map[bool]int{}
	for range 60000 {
		c := code.Code{Regs: draw(), Slots: draw() % 1000}
		for range r.Intn(4) {
			c.Ins = append(c.Ins, code.Ins{Op: draw(), D: draw(), A: r.Intn(2) * draw(), B: r.Intn(2) * draw(), C: r.Intn(2) * draw(), N: draw()})
		}
		for range r.Intn(3) {
			c.Inputs = append(c.Inputs, draw())
		}
		m, f := machine.New(c)
		if f != code.Check(c) || (m != nil) != (f == api.OK) {
			t.Fatalf("P18.1: %v: %v, %d", c, m, f)
		}
		seen[m != nil]++
		for range 3 {
			in := make([]int, r.Intn(3))
			for i := range in {
				in[i] = draw()
			}
			out, f := m.Step(in)
			if f != api.OK && out != nil || m.Fault() != f || len(m.State()) != c.Slots && m != nil {
				t.Fatalf("P18.2: %v, %v: %v, %d", c, in, out, f)
			}
		}
		p := api.Prog{Main: "f", Units: []api.Unit{{Name: "f", Out: api.Param{Name: "c", Type: draw()}, Eqs: []api.Equation{{Name: "c", E: api.Expr{{Op: draw(), A: draw(), B: -1, C: -1, N: draw(), Name: []string{"", "c"}[r.Intn(2)]}}}}}}}
		if _, f := machine.Compile(p, "f", []string{"c"}); f != why(p, "f", []string{"c"}) {
			t.Fatalf("P18.3: %v: %d", p, f)
		}
	}
	if seen[true] < 1000 || seen[false] < 1000 {
		t.Error(seen)
	}
}
