package flat_test

import (
	"fmt"
	"math/rand"
	"slices"
	"strings"
	"testing"

	"bailment/api"
	"bailment/flat"
	"bailment/names"
	"bailment/num"
	"bailment/tree"
)

// copied is a node's copy in what it is called from: what stands in it is told
// by texts that stand behind each other, as show would write them.
type copied struct {
	unit   api.Unit
	prefix string
	args   []string
}

// flattened is what P12.2 says, told in another way: as texts.
type flattened struct {
	units  []api.Unit
	copies []copied
}

// text writes an expression of a copy, all signs set, and calls as Vars.
func (f *flattened) text(e api.Expr, i int, prefix string) string {
	n := e[i]
	switch n.Op {
	case api.OpVar:
		return prefix + n.Name
	case api.OpNum, api.OpBool:
		return fmt.Sprint(n.Op, ":", n.N)
	case api.OpCall:
		var args []string
		var down func(k int)
		down = func(k int) {
			if k >= 0 {
				down(e[k].B)
				args = append(args, f.text(e, e[k].A, prefix))
			}
		}
		down(n.A)
		k := slices.IndexFunc(f.units, func(u api.Unit) bool { return u.Name == n.Name })
		own := fmt.Sprintf("#%d.", len(f.copies))
		f.copies = append(f.copies, copied{f.units[k], own, args})
		return own + f.units[k].Out.Name
	}
	var l []string
	for _, k := range tree.Kids(n) {
		l = append(l, f.text(e, k, prefix))
	}
	return fmt.Sprintf("%d:%d(%s)", n.Op, n.N, strings.Join(l, " "))
}

// lines are all streams, one a line.
func (f *flattened) lines(u api.Unit) []string {
	var out []string
	f.copies = []copied{{unit: u, args: make([]string, len(u.In))}}
	for at := 0; at < len(f.copies) && len(out) <= 4000; at++ {
		c := f.copies[at]
		for i, p := range c.unit.In {
			out = append(out, fmt.Sprint(c.prefix, p.Name, " ", p.Type, " ", c.args[i]))
		}
		for _, p := range append([]api.Param{c.unit.Out}, c.unit.Vars...) {
			for _, q := range c.unit.Eqs {
				if q.Name == p.Name {
					out = append(out, fmt.Sprint(c.prefix, p.Name, " ", p.Type, " ", f.text(q.E, len(q.E)-1, c.prefix)))
				}
			}
		}
	}
	return out
}

// written are streams, one a line.
func written(l []api.Stream) []string {
	f := &flattened{}
	var out []string
	for _, x := range l {
		e := ""
		if len(x.E) > 0 {
			e = f.text(x.E, len(x.E)-1, "")
		}
		out = append(out, fmt.Sprint(x.Name, " ", x.Type, " ", e))
	}
	return out
}

// unit is a node that may call those ahead.
func (s *somes) unit(name string, ahead []api.Unit) api.Unit {
	param := func(name string) api.Param { return api.Param{Name: name, Type: s.one(api.Bool, api.Int, api.Int)} }
	u := api.Unit{Name: name, Out: param("o")}
	for _, name := range []string{"a", "b", "c"}[:s.r.Intn(4)] {
		u.In = append(u.In, param(name))
	}
	for _, name := range []string{"x", "y"}[:s.r.Intn(3)] {
		u.Vars = append(u.Vars, param(name))
	}
	s.calls = nil
	for _, x := range ahead {
		if !x.Contract {
			s.calls = append(s.calls, x)
		}
	}
	s.names = nil
	for _, p := range u.In {
		s.names = append(s.names, p.Name)
	}
	for _, p := range slices.Backward(append([]api.Param{u.Out}, u.Vars...)) {
		if s.r.Intn(12) == 0 {
			s.names = append(s.names, "o")
		}
		u.Eqs = append(u.Eqs, api.Equation{Name: p.Name, E: shuffled(s.r, s.expr(1+s.r.Intn(4)))})
		s.names = append(s.names, p.Name)
	}
	s.r.Shuffle(len(u.Eqs), func(i, j int) { u.Eqs[i], u.Eqs[j] = u.Eqs[j], u.Eqs[i] })
	return u
}

func (s *somes) prog() api.Prog {
	var p api.Prog
	for i := range 1 + s.r.Intn(6) {
		name := string(rune('p' + i))
		if s.r.Intn(6) == 0 {
			p.Units = append(p.Units, api.Unit{Contract: true, Name: "k" + name, Items: []api.Item{{Kind: api.Assume, E: number(1)}}})
		}
		u := s.unit(name, p.Units)
		if s.r.Intn(6) == 0 {
			u.Items = append(u.Items, api.Item{Kind: api.Guarantee, E: v("o")})
			if k := p.Units; len(k) > 0 && k[0].Contract {
				u.Items = append(u.Items, api.Item{Kind: api.Import, Name: k[0].Name})
			}
		}
		p.Units = append(p.Units, u)
		p.Main = name
	}
	return p
}

func TestManyPrograms(t *testing.T) {
	s := &somes{r: rand.New(rand.NewSource(14))}
	calls, ran := map[int]int{}, map[api.Errno]int{}
	for range 12000 {
		p := s.prog()
		for i, u := range p.Units {
			if u.Contract {
				fails(t, p, u.Name, api.ErrName)
				continue
			}
			f := &flattened{units: p.Units}
			want := f.lines(u)
			l, fault := flat.Make(p, u.Name)
			if len(want) > 4000 {
				fails(t, p, u.Name, api.ErrMany)
				continue
			}
			if fault != api.OK || !slices.Equal(written(l), want) {
				t.Fatalf("P12.2: %v: %v, %d, not %v", p, written(l), fault, want)
			}
			calls[min(len(f.copies)-1, 20)]++
			settled(t, l)
			if i == len(p.Units)-1 {
				ran[s.runs(t, p, u, l)]++
			}
		}
		if t.Failed() {
			return
		}
	}
	for _, n := range []int{0, 1, 2, 3, 5, 8, 20} {
		if calls[n] < 50 {
			t.Errorf("%d calls: seen %d times", n, calls[n])
		}
	}
	for f, least := range map[api.Errno]int{api.OK: 2000, api.ErrCycle: 200, api.ErrOver: 100, api.ErrZero: 200} {
		if ran[f] < least {
			t.Errorf("error %d: seen %d times", f, ran[f])
		}
	}
}

// settled tells what is so of all that is made: expressions are in order, and
// may be, names are there once, and what is read is there.
func settled(t *testing.T, l []api.Stream) {
	t.Helper()
	if wrong(l) {
		t.Fatalf("P12.2: %v", l)
	}
	for i, x := range l {
		if len(x.E) > 0 && (!tree.May(x.E) || !slices.Equal(x.E, tree.Sub(x.E, len(x.E)-1))) {
			t.Fatalf("P12.2: %v", x)
		}
		if strings.HasPrefix(x.Name, "#") && len(x.E) == 0 || slices.ContainsFunc(x.E, func(n api.Node) bool { return n.Op >= api.OpCall }) {
			t.Fatalf("P12.2: %d: %v", i, x)
		}
	}
}

// instance is a node that is called, as it stands in a program: nothing is made flat.
type instance struct {
	unit  api.Unit
	args  []func(t int) int
	calls map[[2]int]*instance // by the numbers of an equation, and of a node
	known map[[3]int]int
}

// whole is a program that is told as it stands.
type whole struct {
	p      api.Prog
	faults map[int][]api.Errno // by instants
	in     [][]int
}

func (w *whole) instance(u api.Unit, args []func(t int) int) *instance {
	return &instance{u, args, map[[2]int]*instance{}, map[[3]int]int{}}
}

func (w *whole) stream(x *instance, name string, t int) int {
	for i, p := range x.unit.In {
		if p.Name == name {
			return x.args[i](t)
		}
	}
	for i, q := range x.unit.Eqs {
		if q.Name == name {
			return w.value(x, i, len(q.E)-1, t)
		}
	}
	panic(name)
}

func (w *whole) value(x *instance, q, k, t int) int {
	at := [3]int{q, k, t}
	if _, ok := x.known[at]; !ok {
		x.known[at] = w.reckoned(x, q, k, t)
	}
	return x.known[at]
}

func (w *whole) reckoned(x *instance, q, k, t int) int {
	n := x.unit.Eqs[q].E[k]
	switch {
	case n.Op == api.OpVar:
		return w.stream(x, n.Name, t)
	case n.Op == api.OpCall:
		y := w.called(x, q, k)
		return w.stream(y, y.unit.Out.Name, t)
	}
	// All else is what a stream of the same operator is, of its operands.
	kids := tree.Kids(n)
	if num.Operands(n.Op) >= 0 {
		var l [3]int
		for i, kid := range kids {
			l[i] = w.value(x, q, kid, t)
		}
		y, f := num.Do(n.Op, l[0], l[1], l[2])
		if f != api.OK {
			w.faults[t] = append(w.faults[t], f)
		}
		return y
	}
	var one []api.Stream
	var in [][]int
	own := api.Expr{}
	for i := range kids {
		one = append(one, api.Stream{Name: fmt.Sprint(i)})
		own = append(own, v(fmt.Sprint(i))...)
	}
	past := n.Op == api.OpPre || n.Op == api.OpPrev
	for u := range t + 1 {
		var row []int
		for _, kid := range kids {
			if past && u == t {
				row = append(row, 0)
			} else {
				row = append(row, w.value(x, q, kid, u))
			}
		}
		in = append(in, row)
	}
	own = append(own, api.Node{Op: n.Op, A: -1, B: -1, C: -1, N: n.N})
	for i, at := range []*int{&own[len(kids)].A, &own[len(kids)].B} {
		if i < len(kids) {
			*at = i
		}
	}
	rows, f := flat.Run(append(one, api.Stream{Name: "x", E: own}), in)
	if f != api.OK {
		panic(f)
	}
	return rows[t][len(kids)]
}

// called is what a call calls: of its own, wherever it stands.
func (w *whole) called(x *instance, q, k int) *instance {
	if y, ok := x.calls[[2]int{q, k}]; ok {
		return y
	}
	e := x.unit.Eqs[q].E
	u := w.p.Units[names.Find(w.p, e[k].Name)]
	var args []func(t int) int
	for i := e[k].A; i >= 0; i = e[i].B {
		a := e[i].A
		args = append([]func(t int) int{func(t int) int { return w.value(x, q, a, t) }}, args...)
	}
	y := w.instance(u, args)
	x.calls[[2]int{q, k}] = y
	return y
}

// all reckons each node of what is called, in all depths, at an instant.
func (w *whole) all(x *instance, t int) {
	for q, eq := range x.unit.Eqs {
		for k, n := range eq.E {
			if n.Op != api.OpArgs {
				w.value(x, q, k, t)
			}
			if n.Op == api.OpCall {
				w.all(w.called(x, q, k), t)
			}
		}
	}
}

// runs holds what streams are against what the program means as it stands.
func (s *somes) runs(t *testing.T, p api.Prog, u api.Unit, l []api.Stream) api.Errno {
	t.Helper()
	var in [][]int
	for range s.r.Intn(6) {
		var row []int
		for _, x := range u.In {
			row = append(row, s.one(0, 1, 5, -3, 2))
			if x.Type == api.Bool {
				row[len(row)-1] = s.r.Intn(2)
			}
		}
		in = append(in, row)
	}
	rows, fault := flat.Run(l, in)
	if fault == api.ErrCycle {
		return fault
	}
	w := &whole{p: p, faults: map[int][]api.Errno{}, in: in}
	var args []func(t int) int
	for i := range u.In {
		args = append(args, func(t int) int { return in[t][i] })
	}
	main := w.instance(u, args)
	for i := range in {
		w.all(main, i)
		if len(w.faults[i]) > 0 {
			if least := slices.Min(w.faults[i]); len(rows) != i || fault != least {
				t.Fatalf("P12.3: %v, %v: %v, %d, not %d at %d", p, in, rows, fault, least, i)
			}
			return fault
		}
		for k, x := range l {
			if strings.HasPrefix(x.Name, "#") {
				break
			}
			if i >= len(rows) || rows[i][k] != w.stream(main, x.Name, i) {
				t.Fatalf("P12.3: %v, %v: %v, %d: %q at %d", p, in, rows, fault, x.Name, i)
			}
		}
	}
	if fault != api.OK {
		t.Fatalf("P12.3: %v, %v: %v, %d", p, in, rows, fault)
	}
	return fault
}
