package monitor_test

import (
	"math/rand"
	"slices"
	"strconv"
	"strings"
	"testing"

	"bailment/api"
	"bailment/cause"
	"bailment/flat"
	"bailment/inits"
	"bailment/monitor"
	"bailment/names"
	"bailment/tree"
	"bailment/types"
)

// writer writes programs with contracts that mean something, as texts.
type writer struct {
	r         *rand.Rand
	contracts []contract
	nodes     []signature
	fault     int // one of how many things is wrong; 0: none is
}

// signature is what a node takes and is.
type signature struct {
	name string
	in   []api.Param
	kind int
}

// contract is one that may be imported, and all its ghosts.
type contract struct {
	signature
	ghosts []api.Param
}

func (w *writer) one(l ...string) string { return l[w.r.Intn(len(l))] }

func (w *writer) isRare() bool { return w.fault > 0 && w.r.Intn(w.fault) == 0 }

func (w *writer) kind() int { return 1 + w.r.Intn(2) }

func word(kind int) string { return []string{"", "bool", "int"}[kind] }

func (w *writer) params(l ...string) []api.Param {
	var out []api.Param
	for _, name := range l {
		out = append(out, api.Param{Name: name, Type: w.kind()})
	}
	return out
}

func heads(l []api.Param) string {
	var out []string
	for _, p := range l {
		out = append(out, p.Name+": "+word(p.Type))
	}
	return strings.Join(out, "; ")
}

// leaf is a number, a truth, or one of some streams.
func (w *writer) leaf(kind int, reads []api.Param) string {
	var l []string
	for _, p := range reads {
		if p.Type == kind || w.isRare() {
			l = append(l, p.Name)
		}
	}
	switch {
	case w.isRare():
		return "nobody"
	case len(l) > 0 && w.r.Intn(5) > 0:
		return l[w.r.Intn(len(l))]
	case kind == api.Bool:
		return w.one("true", "true", "false")
	}
	return w.one("0", "1", "2", "7", "50000")
}

// expr is from the beginning on; what is called is asked for.
func (w *writer) expr(kind, deep int, reads []api.Param, calls bool) string {
	of := func(kind int) string { return w.expr(kind, deep-1, reads, calls) }
	if deep <= 1 || w.r.Intn(6) == 0 {
		return w.leaf(kind, reads)
	}
	if w.isRare() {
		return "(pre " + of(kind) + ")"
	}
	switch w.r.Intn(7) {
	case 0:
		return "(" + of(kind) + " -> pre " + of(kind) + ")"
	case 1:
		return "(if " + of(api.Bool) + " then " + of(kind) + " else " + of(kind) + ")"
	case 2:
		for _, i := range w.r.Perm(len(w.nodes)) {
			if n := w.nodes[i]; n.kind == kind && (calls || w.fault > 0 && w.r.Intn(4) == 0) {
				return n.name + "(" + w.arguments(n, of) + ")"
			}
		}
	}
	if kind == api.Int {
		return "(" + of(kind) + w.one(" + ", " - ", " + ", " * ", " div ") + of(kind) + ")"
	}
	switch w.r.Intn(4) {
	case 0:
		return "(" + of(kind) + w.one(" or ", " or ", " and ", " => ", " => ", " xor ", " since ") + of(kind) + ")"
	case 1:
		return "(" + w.one("not", "once", "hist", "prev", "within 2", "once") + " " + of(kind) + ")"
	}
	return "(" + of(api.Int) + w.one(" < ", " <= ", " <> ", " >= ", " = ") + of(api.Int) + ")"
}

func (w *writer) arguments(s signature, of func(kind int) string) string {
	var l []string
	for _, p := range s.in {
		l = append(l, of(p.Type))
	}
	return strings.Join(l, ", ")
}

// items are a contract's, and all its ghosts.
func (w *writer) items(reads []api.Param) (string, []api.Param) {
	var ghosts []api.Param
	text := ""
	imported := map[string]bool{}
	for i := range w.r.Intn(6) {
		of := func(kind int) string {
			return w.expr(kind, 1+w.r.Intn(4), slices.Concat(reads, ghosts), false)
		}
		switch w.r.Intn(5) {
		case 0:
			text += "assume " + of(api.Bool) + "; "
		case 1:
			text += "guarantee " + of(api.Bool) + "; "
		case 2:
			g := api.Param{Name: "g" + strconv.Itoa(i), Type: w.kind()}
			text += "ghost " + heads([]api.Param{g}) + " = " + of(g.Type) + "; "
			ghosts = append(ghosts, g)
		case 3:
			text += "mode m" + strconv.Itoa(w.r.Intn(3)) + " require " + of(api.Bool) + " ensure " + of(api.Bool) + "; "
		case 4:
			if len(w.contracts) == 0 {
				continue
			}
			k := w.contracts[w.r.Intn(len(w.contracts))]
			if imported[k.name] && (w.fault == 0 || w.r.Intn(3) > 0) {
				continue
			}
			imported[k.name] = true
			text += "import " + k.name + "(" + w.arguments(k.signature, of) + "); "
			for _, g := range k.ghosts {
				ghosts = append(ghosts, api.Param{Name: k.name + "_" + g.Name, Type: g.Type})
			}
		}
	}
	return text, ghosts
}

func (w *writer) contract(name string) string {
	in := w.params([]string{"a", "b"}[:w.r.Intn(3)]...)
	text, ghosts := w.items(in)
	w.contracts = append(w.contracts, contract{signature{name: name, in: in}, ghosts})
	return "contract " + name + "(" + heads(in) + ") " + text + "end "
}

func (w *writer) node(name string) string {
	in := w.params([]string{"a", "b", "c"}[:w.r.Intn(4)]...)
	out := w.params("o", "v")
	reads, text, equations := in, "", []string{}
	for _, i := range w.r.Perm(2) {
		equations = append(equations, out[i].Name+" = "+w.expr(out[i].Type, 1+w.r.Intn(4), reads, true)+"; ")
		reads = append(slices.Clone(reads), out[i])
	}
	if w.r.Intn(2) == 0 {
		slices.Reverse(equations)
	}
	if items, _ := w.items(reads); items != "" || w.r.Intn(3) == 0 {
		text = "contract " + items + "end "
	}
	w.nodes = append(w.nodes, signature{name, in, out[0].Type})
	return "node " + name + "(" + heads(in) + ") returns (" + heads(out[:1]) + ") " + text + "var " + heads(out[1:]) + "; let " + strings.Join(equations, "") + "tel "
}

// why is the fault of a program's node, by the calls of the layers below, one by one.
func why(p api.Prog, node string) api.Errno {
	whole, f := names.Resolve(p)
	for _, f := range []api.Fault{f, types.Check(whole), inits.Check(whole), cause.Check(whole)} {
		if f.Code != api.OK {
			return f.Code
		}
	}
	_, e := flat.Make(p, node)
	return e
}

// told are the streams of a contract, and its checks, each by what stands in it.
func told(items []api.Item, from int) ([]string, []monitor.Check) {
	var l []string
	var checks []monitor.Check
	put := func(name string, kind int, e api.Expr) int {
		l = append(l, line(api.Stream{Name: name, Type: kind, E: e}))
		return from + len(l) - 1
	}
	for _, i := range items {
		k := "!" + strconv.Itoa(len(checks)+1)
		switch i.Kind {
		case api.Assume:
			checks = append(checks, assume(put(k, api.Bool, i.E)))
		case api.Guarantee:
			checks = append(checks, guarantee(put(k, api.Bool, i.E)))
		case api.Ghost:
			put(i.Name, i.Type, i.E)
		case api.Mode:
			requires, _ := put(k+".r", api.Bool, i.E), put(k+".e", api.Bool, i.F)
			l = append(l, k+": bool = check_"+k[1:]+"_r => check_"+k[1:]+"_e")
			checks = append(checks, mode(i.Name, from+len(l)-1, requires))
		}
	}
	return l, checks
}

// alone are an expression's values, by the node's streams and nothing else of
// its contract: ghosts are put into it.
func alone(t *testing.T, own []api.Stream, e api.Expr, in [][]int) ([]int, api.Errno) {
	t.Helper()
	rows, f := flat.Run(append(slices.Clone(own), api.Stream{Name: "!", E: e}), in)
	if f == api.ErrArg || f == api.ErrCycle {
		t.Fatalf("P12.3: %v: %d", e, f)
	}
	var l []int
	for _, row := range rows {
		l = append(l, row[len(own)])
	}
	return l, f
}

// follows holds a watch of a node's contract against each item's own
// expressions: what it tells, and the fault by which it ends.
func follows(t *testing.T, text string, p api.Prog, node string, items []api.Item, in [][]int) api.Errno {
	t.Helper()
	own, _ := flat.Make(p, node)
	l, k, _ := monitor.Make(p, node)
	rows, fault := flat.Run(l, in)
	plain, plainFault := flat.Run(own, in)
	least := len(plain)
	faults := map[int][]api.Errno{len(plain): {plainFault}}
	var ghosts []string
	var by []api.Expr
	values := func(e api.Expr) []int {
		l, f := alone(t, own, tree.Put(e, ghosts, by), in)
		least = min(least, len(l))
		faults[len(l)] = append(faults[len(l)], f)
		return l
	}
	var checks [][]bool
	for _, i := range items {
		e := values(i.E)
		switch i.Kind {
		case api.Ghost:
			ghosts, by = append(ghosts, i.Name), append(by, tree.Put(i.E, ghosts, by))
			continue
		case api.Mode:
			ensured := values(i.F)
			for n := range min(len(e), len(ensured)) {
				e[n] = 1 - e[n]*(1-ensured[n])
			}
		}
		var holds []bool
		for _, n := range e {
			holds = append(holds, n == 1)
		}
		checks = append(checks, holds)
	}
	if want := slices.Min(faults[least]); len(rows) != least || fault != want {
		t.Fatalf("P19.3: %s, %v: %d instants, %d, not %d, %d", text, in, len(rows), fault, least, want)
	}
	w := watches(t, k)
	first := slices.Repeat([]int{-1}, len(checks))
	for i, row := range rows {
		if !slices.Equal(row[:len(own)], plain[i]) {
			t.Fatalf("P19.3: %s, %v: at %d: %v, not %v", text, in, i, row, plain[i])
		}
		var failed []int
		for n, holds := range checks {
			if first[n] < 0 && !holds[i] {
				first[n] = i
				failed = append(failed, n)
			}
		}
		steps(t, text, w, row, failed, first)
	}
	return fault
}

func TestManyContracts(t *testing.T) {
	r := rand.New(rand.NewSource(191))
	faults, ran, seen := map[api.Errno]int{}, map[api.Errno]int{}, map[string]int{}
	for n := range 6000 {
		w := &writer{r: r, fault: []int{0, 0, 0, 30}[n%4]}
		text := ""
		if r.Intn(2) == 0 {
			text = w.node("h")
		}
		text += w.contract("k") + w.contract("l") + w.node("f") + "main f;"
		if r.Intn(3) == 0 {
			text = strings.Replace(text, "main f;", w.node("i")+"main i;", 1)
		}
		if len(text) > 20000 {
			continue
		}
		p := source(t, text)
		want := why(p, "f")
		faults[want]++
		if want != api.OK {
			makesNot(t, text, p, "f", want)
			if w.fault == 0 && want != api.ErrMany {
				t.Fatalf("%s: %d", text, want)
			}
			continue
		}
		whole, _ := names.Resolve(p)
		unit := whole.Units[names.Find(whole, "f")]
		own, _ := flat.Make(p, "f")
		lines, checks := told(unit.Items, len(own))
		makes(t, text, p, "f", lines, checks)
		for _, c := range checks {
			seen[strconv.Itoa(c.Kind)]++
		}
		if deep(unit.Items) {
			continue
		}
		var in [][]int
		for range r.Intn(12) {
			row := []int{}
			for _, x := range unit.In {
				row = append(row, r.Intn([]int{0, 2, 9}[x.Type]))
			}
			in = append(in, row)
		}
		ran[follows(t, text, p, "f", unit.Items, in)]++
	}
	for f, least := range map[api.Errno]int{api.OK: 4000, api.ErrName: 200, api.ErrType: 50, api.ErrInit: 50, api.ErrCall: 20, api.ErrTwice: 10} {
		if faults[f] < least {
			t.Errorf("program's error %d: seen %d times", f, faults[f])
		}
	}
	for f, least := range map[api.Errno]int{api.OK: 3000, api.ErrOver: 10, api.ErrZero: 500} {
		if ran[f] < least {
			t.Errorf("run's error %d: seen %d times", f, ran[f])
		}
	}
	for _, kind := range []int{api.Assume, api.Guarantee, api.Mode} {
		if seen[strconv.Itoa(kind)] < 2000 {
			t.Errorf("kind %d: seen %d times", kind, seen[strconv.Itoa(kind)])
		}
	}
}

// deep tells whether an item's expression would be none with all ghosts put into it.
func deep(items []api.Item) bool {
	var ghosts []string
	var by []api.Expr
	for _, i := range items {
		for _, e := range []api.Expr{i.E, i.F} {
			if len(e) > 0 && !tree.May(tree.Put(e, ghosts, by)) {
				return true
			}
		}
		if i.Kind == api.Ghost {
			ghosts, by = append(ghosts, i.Name), append(by, tree.Put(i.E, ghosts, by))
		}
	}
	return false
}

// Nothing that is handed in makes a call panic.
func TestAnything(t *testing.T) {
	r := rand.New(rand.NewSource(192))
	draw := func() int {
		return []int{-1, -1, 0, 0, 1, 2, r.Intn(32), -1 << 63, 1<<63 - 1}[r.Intn(9)]
	}
	expression := func() api.Expr {
		if r.Intn(3) > 0 {
			return api.Expr{{Op: api.OpVar, A: -1, B: -1, C: -1, Name: "c"}}[:r.Intn(2)]
		}
		var e api.Expr
		for range r.Intn(3) {
			e = append(e, api.Node{Op: r.Intn(5), A: draw(), B: -1, C: -1, N: r.Intn(2), Name: []string{"", "", "c"}[r.Intn(3)]})
		}
		return e
	}
	seen := map[bool]int{}
	for range 100000 {
		u := api.Unit{Name: "f", Out: api.Param{Name: "c", Type: api.Bool}, Eqs: []api.Equation{{Name: "c", E: api.Expr{{Op: api.OpBool, A: -1, B: -1, C: -1}}}}}
		for range r.Intn(3) {
			u.Items = append(u.Items, api.Item{Kind: r.Intn(6), Name: []string{"", "m", "g"}[r.Intn(3)], Type: r.Intn(2) * r.Intn(2) * draw(), E: expression(), F: expression()})
		}
		p := api.Prog{Main: "f", Units: []api.Unit{u}}
		want := why(p, "f")
		l, k, f := monitor.Make(p, "f")
		if f != want || f != api.OK && (l != nil || k != nil) {
			t.Fatalf("P19.1: %v: %v, %v, %d, not %d", p, l, k, f, want)
		}
		seen[f == api.OK && len(u.Items) > 0]++
		w := monitor.New([]monitor.Check{{Kind: draw(), Holds: draw(), Active: draw()}, {Holds: draw()}})
		for i := range 3 {
			l := w.Step(make([]int, r.Intn(3)))
			if first := w.First(); len(first) != 2 || len(l) > 2 || w.Count() != i+1 {
				t.Fatalf("P19.2: %v, %v", l, first)
			}
		}
	}
	if seen[true] < 300 {
		t.Error(seen)
	}
}
