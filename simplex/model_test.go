package simplex_test

import (
	"cmp"
	"fmt"
	"math"
	"math/rand"
	"slices"
	"strconv"
	"strings"
	"testing"

	"bailment/api"
	"bailment/flat"
	"bailment/frame"
	"bailment/list"
	"bailment/monitor"
	"bailment/names"
	"bailment/norm"
	"bailment/past"
	"bailment/simplex"
)

// why is the fault of a program, by the calls of the layers below, one by one.
func why(p api.Prog) api.Errno {
	primary, _, e := monitor.Make(p, p.Main)
	if e != api.OK {
		return e
	}
	nodes := [][]api.Stream{primary}
	if p.Back != "" {
		l, e := flat.Make(p, p.Back)
		if e != api.OK {
			return e
		}
		nodes = append(nodes, l)
	}
	for _, l := range nodes {
		if l, e = past.Free(l); e != api.OK {
			return e
		}
		if _, e = norm.Make(l); e != api.OK {
			return e
		}
	}
	return api.OK
}

// taken is how many instants there are ahead of the first one whose numbers
// can't be inputs.
func taken(types []api.Param, in [][]int) int {
	for at, row := range in {
		if len(row) != len(types) {
			return at
		}
		for i, n := range row {
			if n < math.MinInt32 || n > math.MaxInt32 || types[i].Type == api.Bool && n&1 != n {
				return at
			}
		}
	}
	return len(in)
}

// said is what a program does, told from the end: what both nodes are at all
// instants is known ahead, by flat.Run, and then the first instant at which the
// primary fails is looked for.
func said(t *testing.T, p api.Prog, in [][]int) (simplex.Result, api.Errno) {
	t.Helper()
	if e := why(p); e != api.OK {
		return simplex.Result{}, e
	}
	streams, checks, _ := monitor.Make(p, p.Main)
	unit := p.Units[names.Find(p, p.Main)]
	size := taken(unit.In, in)
	primary, fault := flat.Run(streams, in[:size])
	r := simplex.Result{Latch: -1, EndedAt: -1}
	if fault != api.OK {
		r.Latch, r.Why = len(primary), fault
	}
	for k, c := range checks {
		at := slices.IndexFunc(primary, func(row []int) bool { return row[c.Holds] == 0 })
		if at < 0 {
			continue
		}
		r.Log = append(r.Log, simplex.Verdict{Check: k, Kind: c.Kind, Name: c.Name, At: at})
		if c.Kind != api.Assume && (r.Latch < 0 || at < r.Latch) {
			r.Latch, r.Why = at, api.ErrGhost
		}
	}
	r.Log = slices.DeleteFunc(r.Log, func(v simplex.Verdict) bool { return r.Latch >= 0 && v.At > r.Latch })
	slices.SortStableFunc(r.Log, func(a, b simplex.Verdict) int { return cmp.Compare(a.At, b.At) })
	var behind [][]int
	ended := r.Why
	if p.Back != "" {
		l, _ := flat.Make(p, p.Back)
		behind, ended = flat.Run(l, in[:size])
	}
	r.Outs = published(primary, behind, r.Latch, flat.Find(streams, unit.Out.Name))
	if r.Latch >= 0 && len(r.Outs) < size {
		r.Ended, r.EndedAt = ended, len(r.Outs)
	} else if size < len(in) {
		r.Ended, r.EndedAt = api.ErrFrame, size
	}
	return r, api.OK
}

func published(primary, behind [][]int, latch, out int) []int {
	rows := primary
	if latch >= 0 {
		rows = slices.Clone(primary[:latch])
		if latch < len(behind) {
			rows = append(rows, behind[latch:]...)
		}
	}
	var l []int
	for _, row := range rows {
		l = append(l, row[out])
	}
	return l
}

// writer writes programs with contracts that mean something, as texts.
type writer struct {
	r     *rand.Rand
	nodes []signature
	fault int // one of how many things is wrong; 0: none is
}

// signature is what a node takes and is.
type signature struct {
	name string
	in   []api.Param
	out  api.Param
}

func (w *writer) one(l ...string) string { return l[w.r.Intn(len(l))] }

func (w *writer) isRare() bool { return w.fault > 0 && w.r.Intn(w.fault) == 0 }

func (w *writer) params(l ...string) []api.Param {
	var out []api.Param
	for _, name := range l {
		out = append(out, api.Param{Name: name, Type: 1 + w.r.Intn(2)})
	}
	return out
}

func heads(l ...api.Param) string {
	var out []string
	for _, p := range l {
		out = append(out, p.Name+": "+[]string{"", "bool", "int"}[p.Type])
	}
	return strings.Join(out, "; ")
}

// leaf is a number, a truth, or one of some streams.
func (w *writer) leaf(kind int, reads []api.Param) string {
	var l []string
	for _, p := range reads {
		if p.Type == kind || w.isRare() {
			l = append(l, p.Name)
		}
	}
	switch {
	case w.isRare():
		return "nobody"
	case len(l) > 0 && w.r.Intn(5) > 0:
		return l[w.r.Intn(len(l))]
	case kind == api.Bool:
		return w.one("true", "true", "false")
	}
	return w.one("0", "1", "2", "7", "50000")
}

// expr is from the beginning on; nodes are called, if that is asked for.
func (w *writer) expr(kind, deep int, reads []api.Param, calls bool) string {
	of := func(kind int) string { return w.expr(kind, deep-1, reads, calls) }
	if deep <= 1 || w.r.Intn(6) == 0 {
		return w.leaf(kind, reads)
	}
	if w.isRare() {
		return "(pre " + of(kind) + ")"
	}
	switch w.r.Intn(7) {
	case 0:
		return "(" + of(kind) + " -> pre " + of(kind) + ")"
	case 1:
		return "(if " + of(api.Bool) + " then " + of(kind) + " else " + of(kind) + ")"
	case 2:
		for _, i := range w.r.Perm(len(w.nodes)) {
			if n := w.nodes[i]; calls && n.out.Type == kind {
				var l []string
				for _, p := range n.in {
					l = append(l, of(p.Type))
				}
				return n.name + "(" + strings.Join(l, ", ") + ")"
			}
		}
	}
	if kind == api.Int {
		return "(" + of(kind) + w.one(" + ", " - ", " + ", " - ", " * ", " div ", " mod ") + of(kind) + ")"
	}
	switch w.r.Intn(4) {
	case 0:
		return "(" + of(kind) + w.one(" or ", " or ", " and ", " => ", " => ", " xor ", " since ") + of(kind) + ")"
	case 1:
		return "(" + w.one("not", "once", "hist", "prev", "within 2", "once") + " " + of(kind) + ")"
	}
	return "(" + of(api.Int) + w.one(" < ", " <= ", " <> ", " >= ", " = ") + of(api.Int) + ")"
}

// items are a contract's. Most of them hold for a while.
func (w *writer) items(reads []api.Param) string {
	text := ""
	for i := range w.r.Intn(6) {
		deep := 2 + w.r.Intn(3)
		is := func() string { return w.expr(api.Bool, deep, reads, false) }
		holds := func() string { return w.one("", "", "", "true -> ", "once (", "prev (not ") + is() }
		closed := func(s string) string { return s + strings.Repeat(")", strings.Count(s, "(")-strings.Count(s, ")")) }
		switch w.r.Intn(5) {
		case 0:
			text += "assume " + closed(holds()) + "; "
		case 1:
			text += "guarantee " + closed(holds()) + " or " + is() + " or " + is() + "; "
		case 2:
			g := api.Param{Name: "g" + strconv.Itoa(i), Type: 1 + w.r.Intn(2)}
			text += "ghost " + heads(g) + " = " + w.expr(g.Type, deep, reads, false) + "; "
			reads = append(slices.Clone(reads), g)
		default:
			text += "mode m" + strconv.Itoa(w.r.Intn(3)) + " require " + is() + " and " + is() + " ensure " + closed(holds()) + "; "
		}
	}
	return text
}

// node is one that may call those ahead of it.
func (w *writer) node(name string, in []api.Param, out api.Param) string {
	own := append([]api.Param{out}, w.params("v")...)
	reads, text, equations := in, "", []string{}
	for _, i := range w.r.Perm(2) {
		equations = append(equations, own[i].Name+" = "+w.expr(own[i].Type, 1+w.r.Intn(4), reads, true)+"; ")
		reads = append(slices.Clone(reads), own[i])
	}
	if items := w.items(reads); items != "" || w.r.Intn(3) == 0 {
		text = "contract " + items + "end "
	}
	w.nodes = append(w.nodes, signature{name, in, out})
	return "node " + name + "(" + heads(in...) + ") returns (" + heads(out) + ") " + text + "var " + heads(own[1:]...) + "; let " + strings.Join(equations, "") + "tel "
}

// program is one of a helper, two nodes like each other, and which of them run.
func (w *writer) program() string {
	in, out := w.params([]string{"a", "b", "c"}[:w.r.Intn(4)]...), w.params("o")[0]
	text := ""
	if w.r.Intn(2) == 0 {
		text = w.node("h", w.params([]string{"a", "b"}[:w.r.Intn(3)]...), w.params("o")[0])
	}
	text += w.node("f", in, out)
	if w.isRare() {
		in = w.params("a", "b")
	}
	text += w.node("g", in, out)
	text += w.one("main f; ", "main g; ")
	return text + w.one("", "fallback f;", "fallback g;", "fallback f;", "fallback g;")
}

// inputs are instants' numbers, most of them such as may be.
func (w *writer) inputs(types []api.Param) [][]int {
	var in [][]int
	for range w.r.Intn(16) {
		row := []int{}
		for _, p := range types {
			row = append(row, w.r.Intn([]int{0, 2, 9}[p.Type]))
		}
		switch w.r.Intn(80) {
		case 0:
			row = append(row, 1)
		case 1:
			if len(row) > 0 {
				row[w.r.Intn(len(row))] = []int{1 << 31, -1<<31 - 1, math.MaxInt}[w.r.Intn(3)]
			}
		}
		in = append(in, row)
	}
	return in
}

// runsAlike tells that a source does what its program does, with lines for
// inputs; the first one that can't be written is a line that is none.
func runsAlike(t *testing.T, text string, types []api.Param, in [][]int, want simplex.Result) {
	t.Helper()
	size := taken(types, in)
	var kinds []int
	for _, p := range types {
		kinds = append(kinds, p.Type)
	}
	lines, _ := frame.Write(kinds, in[:size])
	if size < len(in) {
		lines += "0 x\n0\n"
	}
	runs(t, text, lines, want)
}

// follows tells what chapter 24 says to follow.
func follows(t *testing.T, p api.Prog, in [][]int, r simplex.Result) {
	t.Helper()
	streams, checks, _ := monitor.Make(p, p.Main)
	out := flat.Find(streams, p.Units[names.Find(p, p.Main)].Out.Name)
	ahead := len(r.Outs)
	if r.Latch >= 0 {
		ahead = r.Latch
	}
	primary, _ := flat.Run(streams, in)
	for at, row := range primary[:ahead] {
		if row[out] != r.Outs[at] {
			t.Fatalf("P24.3: at %d: %d, not %d", at, r.Outs[at], row[out])
		}
		for _, c := range checks {
			if c.Kind != api.Assume && row[c.Holds] == 0 {
				t.Fatalf("P24.3: at %d: %v fails", at, c)
			}
		}
	}
	if ahead < len(r.Outs) {
		l, _ := flat.Make(p, p.Back)
		behind, _ := flat.Run(l, in)
		for at, n := range r.Outs[ahead:] {
			if n != behind[ahead+at][out] {
				t.Fatalf("P24.3: at %d: %d, not %d", ahead+at, n, behind[ahead+at][out])
			}
		}
	}
}

func TestManyPrograms(t *testing.T) {
	r := rand.New(rand.NewSource(241))
	faults, whys, ended, seen := map[api.Errno]int{}, map[api.Errno]int{}, map[api.Errno]int{}, map[string]int{}
	for n := range 3000 {
		w := &writer{r: r, fault: []int{0, 0, 0, 60}[n%4]}
		text := w.program()
		if len(text) > 20000 {
			continue
		}
		p := source(t, text)
		types := p.Units[names.Find(p, p.Main)].In
		in := w.inputs(types)
		want, e := said(t, p, in)
		faults[e]++
		if e != api.OK {
			execsNot(t, text, p, e)
			runsNot(t, text, api.Fault{Code: e, At: -1})
			if w.fault == 0 && e != api.ErrMany {
				t.Fatalf("%s: %d", text, e)
			}
			continue
		}
		execs(t, text, p, in, want)
		runsAlike(t, text, types, in, want)
		if n%8 == 0 {
			runsAlike(t, list.Write(p), types, in, want)
		}
		follows(t, p, in, want)
		whys[want.Why]++
		ended[want.Ended]++
		for what, is := range map[string]bool{
			"falls at once": want.Latch == 0, "falls later": want.Latch > 0, "goes on": want.Latch >= 0 && len(want.Outs) > want.Latch+1,
			"ends behind": want.Latch >= 0 && want.EndedAt > want.Latch, "ends where it falls": p.Back != "" && want.Latch >= 0 && want.EndedAt == want.Latch,
			"a frame behind": want.Latch >= 0 && want.Ended == api.ErrFrame, "another error": want.Ended != want.Why && want.Ended != api.OK && want.Ended != api.ErrFrame && want.Why != api.ErrGhost,
			"several": len(want.Log) > 2, "assumes": slices.ContainsFunc(want.Log, func(v simplex.Verdict) bool { return v.Kind == api.Assume && v.At < want.Latch }),
			"a fault behind a log": len(want.Log) > 0 && want.Why != api.OK && want.Why != api.ErrGhost,
		} {
			if is {
				seen[what]++
			}
		}
	}
	counted := func(what string, seen, least map[api.Errno]int) {
		for f, n := range least {
			if seen[f] < n {
				t.Errorf("%s %d: seen %d times", what, f, seen[f])
			}
		}
	}
	counted("program's error", faults, map[api.Errno]int{api.OK: 2000, api.ErrName: 100, api.ErrType: 20, api.ErrInit: 20})
	counted("why", whys, map[api.Errno]int{api.OK: 1000, api.ErrOver: 30, api.ErrZero: 300, api.ErrGhost: 300})
	counted("ended by", ended, map[api.Errno]int{api.OK: 1000, api.ErrOver: 10, api.ErrZero: 200, api.ErrGhost: 50, api.ErrFrame: 100})
	for what, n := range seen {
		if n < 5 {
			t.Errorf("%s: seen %d times", what, n)
		}
	}
	if len(seen) != 10 {
		t.Error(seen)
	}
}

// Nothing that is handed in makes a call panic.
func TestAnything(t *testing.T) {
	r := rand.New(rand.NewSource(242))
	draw := func() int {
		return []int{-1, -1, 0, 0, 1, 2, r.Intn(32), math.MinInt, math.MaxInt}[r.Intn(9)]
	}
	expression := func() api.Expr {
		if r.Intn(3) > 0 {
			return api.Expr{{Op: api.OpVar, A: -1, B: -1, C: -1, Name: "c"}}[:r.Intn(2)]
		}
		var e api.Expr
		for range r.Intn(3) {
			e = append(e, api.Node{Op: r.Intn(5), A: draw(), B: -1, C: -1, N: r.Intn(2), Name: []string{"", "", "c"}[r.Intn(3)]})
		}
		return e
	}
	name := func() string { return []string{"f", "f", "f", "", "g", "c", "F"}[r.Intn(7)] }
	seen := map[bool]int{}
	for range 60000 {
		u := api.Unit{Name: name(), Out: api.Param{Name: "c", Type: api.Bool}, Eqs: []api.Equation{{Name: "c", E: api.Expr{{Op: api.OpBool, A: -1, B: -1, C: -1, N: 1}}}}}
		for range r.Intn(3) {
			u.Items = append(u.Items, api.Item{Kind: r.Intn(6), Name: []string{"", "m", "g"}[r.Intn(3)], Type: r.Intn(2) * r.Intn(2) * draw(), E: expression(), F: expression()})
		}
		if r.Intn(4) == 0 {
			u.In = []api.Param{{Name: "a", Type: draw()}}
		}
		p := api.Prog{Main: name(), Units: []api.Unit{u}}
		if r.Intn(3) == 0 {
			p.Back = name()
		}
		in := make([][]int, r.Intn(4))
		for i := range in {
			for range r.Intn(2) {
				in[i] = append(in[i], draw())
			}
		}
		want, e := said(t, p, in)
		if got, f := simplex.Exec(p, in); f != e || !same(got, want) {
			t.Fatalf("P24.1: %v, %v: %v, %d, not %v, %d", p, in, got, f, want, e)
		}
		seen[e == api.OK]++
	}
	if seen[true] < 1000 || seen[false] < 1000 {
		t.Error(seen)
	}
	for range 30000 {
		words := strings.Fields("node f ( a : int ) returns ( c : int ) let c = a ; tel main f ; fallback f ;")
		for range r.Intn(3) {
			i := r.Intn(len(words))
			words[i] = words[r.Intn(len(words))]
		}
		s, inputs := strings.Join(words, " "), fmt.Sprint(draw(), "\n", draw())
		got, f := simplex.Run(s, inputs)
		if f.Code != api.OK && !same(got, simplex.Result{}) || f.Code == api.OK && got.EndedAt == -1 && len(got.Outs) != 2 {
			t.Fatalf("P24.2: %s, %q: %v, %v", s, inputs, got, f)
		}
	}
}
