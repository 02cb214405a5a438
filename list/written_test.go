package list_test

import (
	"math/rand"
	"slices"
	"strconv"
	"strings"
	"testing"

	"bailment/api"
	"bailment/lex"
	"bailment/list"
	"bailment/prog"
	"bailment/show"
	"bailment/tree"
)

// said is what P7.2 says, told in another way: the text without a blank that it
// does not need, cut into tokens.
func said(t *testing.T, p api.Prog) string {
	t.Helper()
	types := map[int]string{api.Bool: "bool", api.Int: "int"}
	params := func(l []api.Param) string {
		var out []string
		for _, x := range l {
			out = append(out, x.Name+":"+types[x.Type])
		}
		return strings.Join(out, ";")
	}
	items := func(l []api.Item) string {
		out := ""
		for _, i := range l {
			switch i.Kind {
			case api.Assume:
				out += "assume " + show.Show(i.E)
			case api.Guarantee:
				out += "guarantee " + show.Show(i.E)
			case api.Ghost:
				out += "ghost " + params([]api.Param{{Name: i.Name, Type: i.Type}}) + "=" + show.Show(i.E)
			case api.Mode:
				out += "mode " + i.Name + " require " + show.Show(i.E) + " ensure " + show.Show(i.F)
			case api.Import:
				var args []string
				for _, e := range i.Args {
					args = append(args, show.Show(e))
				}
				out += "import " + i.Name + "(" + strings.Join(args, ",") + ")"
			}
			out += ";"
		}
		return out
	}
	out := ""
	for _, u := range p.Units {
		if u.Contract {
			out += "contract " + u.Name + "(" + params(u.In) + ")" + items(u.Items) + "end "
			continue
		}
		out += "node " + u.Name + "(" + params(u.In) + ")returns(" + params([]api.Param{u.Out}) + ")"
		if len(u.Items) != 0 {
			out += "contract " + items(u.Items) + "end "
		}
		if len(u.Vars) != 0 {
			out += "var " + params(u.Vars) + ";"
		}
		out += "let "
		for _, q := range u.Eqs {
			out += q.Name + "=" + show.Show(q.E) + ";"
		}
		out += "tel "
	}
	out += "main " + p.Main + ";"
	if p.Back != "" {
		out += "fallback " + p.Back + ";"
	}
	l, f := lex.Lex(out)
	if f.Code != api.OK {
		t.Fatalf("%.300q: %v", out, f)
	}
	return lex.Join(l)
}

// some is an expression of any operators, at most so deep (but for the arguments of calls).
func some(r *rand.Rand, deep int) api.Expr {
	if deep <= 1 || r.Intn(4) == 0 {
		return []api.Expr{tree.Join(api.OpNum, r.Intn(100), ""), tree.Join(api.OpBool, r.Intn(2), ""), v("a"), v("b"), tree.Join(api.OpCall, 0, "f")}[r.Intn(5)]
	}
	kid := func() api.Expr { return some(r, deep-1) }
	switch o := api.OpNot + r.Intn(api.OpCall-api.OpNot+1); {
	case o == api.OpWithin:
		return tree.Join(o, r.Intn(1001), "", kid())
	case o == api.OpIf:
		return op(o, kid(), kid(), kid())
	case o == api.OpCall:
		return tree.Join(o, 0, "g", []api.Expr{kid(), kid(), kid()}[:r.Intn(4)]...)
	case o <= api.OpNeg || o >= api.OpPre:
		return op(o, kid())
	default:
		return op(o, kid(), kid())
	}
}

// shuffled is an expression whose nodes stand in another order, operands ahead.
func shuffled(r *rand.Rand, e api.Expr) api.Expr {
	to := make([]int, len(e))
	for i := range to {
		to[i] = -1
	}
	var out api.Expr
	for len(out) < len(e) {
		i := r.Intn(len(e))
		node := e[i]
		ready := to[i] < 0
		for _, k := range tree.Kids(node) {
			ready = ready && to[k] >= 0
		}
		if !ready {
			continue
		}
		for _, f := range []*int{&node.A, &node.B, &node.C} {
			if *f >= 0 {
				*f = to[*f]
			}
		}
		to[i] = len(out)
		out = append(out, node)
	}
	return out
}

// maker makes programs by chance.
type maker struct{ r *rand.Rand }

func (m maker) name() string {
	return []string{"a", "b", "f", "k_g", "_", "x9", strings.Repeat("z", 40)}[m.r.Intn(7)]
}

func (m maker) expr() api.Expr { return shuffled(m.r, some(m.r, 1+m.r.Intn(4))) }

func (m maker) param() api.Param { return api.Param{Name: m.name(), Type: 1 + m.r.Intn(2)} }

func (m maker) equation() api.Equation { return api.Equation{Name: m.name(), E: m.expr()} }

func (m maker) item() api.Item {
	i := api.Item{Kind: 1 + m.r.Intn(5)}
	switch i.Kind {
	case api.Ghost:
		x := m.param()
		i.Name, i.Type, i.E = x.Name, x.Type, m.expr()
	case api.Mode:
		i.Name, i.E, i.F = m.name(), m.expr(), m.expr()
	case api.Import:
		i.Name, i.Args = m.name(), several(m, maker.expr)
	default:
		i.E = m.expr()
	}
	return i
}

func (m maker) unit() api.Unit {
	u := api.Unit{Contract: m.r.Intn(2) == 0, Name: m.name(), In: several(m, maker.param), Items: several(m, maker.item)}
	if !u.Contract {
		u.Out, u.Vars, u.Eqs = m.param(), several(m, maker.param), several(m, maker.equation)
	}
	return u
}

func (m maker) prog() api.Prog {
	p := api.Prog{Units: several(m, maker.unit), Main: m.name()}
	if m.r.Intn(2) == 0 {
		p.Back = m.name()
	}
	return p
}

// several are up to three things; where there is none the list is nil, or it is not.
func several[T any](m maker, one func(maker) T) []T {
	n := m.r.Intn(5) - 1
	if n < 0 {
		return nil
	}
	l := make([]T, 0, n)
	for range n {
		l = append(l, one(m))
	}
	return l
}

func TestMany(t *testing.T) {
	m := maker{rand.New(rand.NewSource(21))}
	for range 4000 {
		p := m.prog()
		kept := copied(p)
		s := list.Write(p)
		writes(t, p, said(t, p))
		o := list.Order(p)
		q, f := prog.Parse(s)
		if f != (api.Fault{}) || !same(q, o) {
			t.Fatalf("P7.3: %q: %v, %v; not %v", s, f, q, o)
		}
		if !list.May(o) || list.Write(o) != s || !same(list.Order(o), o) || !list.May(q) || list.Write(q) != s {
			t.Fatalf("P7.1, P7.2, R6: %q: %q", s, list.Write(o))
		}
		if !same(p, kept) {
			t.Fatalf("R5: %v is changed", kept)
		}
	}
}

// What is read can be written, up to all limits of what is read.
func TestWhatIsReadCanBeWritten(t *testing.T) {
	times := strings.Repeat
	in := strings.TrimSuffix(times("a:int;", 200), ";")
	for _, s := range []string{
		times("contract k() end ", 200) + "main f;",
		times("node f() returns (b: int) let tel ", 200) + "main f; fallback f;",
		"node f(" + in + ") returns (b: int) var " + times("x:bool;", 200) + "let " + times("b=1;", 200) + "tel main f;",
		"contract k(" + in + ") " + times("mode m require a ensure b;", 200) + "end main f;",
		"contract k() " + times("import j(a);", 199) + "import j(" + strings.TrimSuffix(times("a,", 200), ",") + "); end main f;",
		"contract k() assume " + times("not ", 39) + "a; ghost g: int = f(" + strings.TrimSuffix(times("a,", 38), ",") + "); end main f;",
		"node f() returns (b: int) let b = " + show.Show(op(api.OpNeg, sum("w", 4999))) + "; tel main f;",
	} {
		p := read(t, s)
		if !list.May(p) {
			t.Fatalf("P7.3: %.200q", s)
		}
		if q := read(t, list.Write(p)); !same(p, q) {
			t.Fatalf("P7.3: %.200q", s)
		}
	}
}

// A text may be longer than a source: it is written all the same.
func TestLongerThanASource(t *testing.T) {
	name := strings.Repeat("n", 40)
	p := api.Prog{Main: name}
	for i := range 200 {
		p.Units = append(p.Units, api.Unit{Name: "f" + strconv.Itoa(i), Out: api.Param{Name: name, Type: api.Int}, Eqs: slices.Repeat([]api.Equation{{Name: name, E: sum(name, 9)}}, 100)})
	}
	s := list.Write(p)
	if want := 200 * (1 + 100*6); strings.Count(s, name) != want+1 || !list.May(p) {
		t.Errorf("P7.2: %d bytes, %d names", len(s), strings.Count(s, name))
	}
	if _, f := prog.Parse(s); f != (api.Fault{Code: api.ErrMany, At: -1}) {
		t.Errorf("P2.1: %v", f)
	}
}

func TestOrder(t *testing.T) {
	turned := api.Expr{v("b")[0], v("a")[0], {Op: api.OpSub, A: 1, B: 0, C: -1}}
	neat := op(api.OpSub, v("a"), v("b"))
	// A program that can't be written is put in order, too; all but its expressions stays as it is.
	odd := api.Unit{Contract: true, Name: "K", In: []api.Param{{Name: "", Type: 7}, {Name: "a", Type: 1}}, Out: api.Param{Name: "o o", Type: -3}, Vars: []api.Param{{Name: "x"}, {Type: 2}}}
	odd.Items = []api.Item{{Kind: 77, Name: "?", Type: -1, E: turned, F: turned, Args: []api.Expr{turned, nil, v("A"), neat}}, {}}
	want := odd
	want.Items = []api.Item{{Kind: 77, Name: "?", Type: -1, E: neat, F: neat, Args: []api.Expr{neat, nil, v("A"), neat}}, {}}
	for i, e := range bad() {
		eq := api.Equation{Name: strconv.Itoa(i), E: e}
		odd.Eqs = append(odd.Eqs, eq)
		if !tree.May(e) {
			eq.E = nil
		}
		want.Eqs = append(want.Eqs, eq)
		odd.Items = append(odd.Items, api.Item{E: e, F: e, Args: []api.Expr{e, turned}})
		want.Items = append(want.Items, api.Item{E: eq.E, F: eq.E, Args: []api.Expr{eq.E, neat}})
	}
	p := api.Prog{Units: []api.Unit{{}, odd, odd}, Main: "7", Back: "f g"}
	o := list.Order(p)
	if !same(o, api.Prog{Units: []api.Unit{{}, want, want}, Main: "7", Back: "f g"}) {
		t.Errorf("P7.1: %v", o)
	}
	if o := list.Order(api.Prog{}); !same(o, api.Prog{}) {
		t.Errorf("P7.1: %v", o)
	}
	long := api.Prog{Units: repeated(api.Unit{Eqs: repeated(api.Equation{E: turned}, 300)[0]}, 300)[0]}
	if o := list.Order(long); len(o.Units) != 300 || len(o.Units[299].Eqs) != 300 || !slices.Equal(o.Units[299].Eqs[299].E, neat) {
		t.Error("P7.1: of long lists")
	}
}

// scrawl writes over a program, and over the spare room of its lists.
func scrawl(p api.Prog) {
	for _, e := range expressions(p.Units) {
		all := (*e)[:cap(*e)]
		for i := range all {
			all[i] = api.Node{Op: -9, Name: "scrawled"}
		}
	}
	for _, u := range p.Units {
		for i := range u.Items {
			over(u.Items[i].Args, api.Expr{{Op: -7}})
		}
		over(u.In, api.Param{Name: "scrawled"})
		over(u.Vars, api.Param{Name: "scrawled"})
		over(u.Eqs, api.Equation{Name: "scrawled"})
		over(u.Items, api.Item{Name: "scrawled"})
	}
	over(p.Units, api.Unit{Name: "scrawled"})
}

func over[T any](l []T, x T) {
	l = l[:cap(l)]
	for i := range l {
		l[i] = x
	}
}

func TestOrderIsItsOwn(t *testing.T) {
	m := maker{rand.New(rand.NewSource(22))}
	for range 500 {
		p := m.prog()
		kept := copied(p)
		scrawl(list.Order(p))
		if !same(p, kept) {
			t.Fatalf("P7.1, R5: %v is changed: %v", kept, p)
		}
		o := list.Order(p)
		want := copied(o)
		scrawl(p)
		if !same(o, want) {
			t.Fatalf("P7.1, R5: %v is kept", want)
		}
	}
	// Of lists that are one in what is handed in each is answered by itself.
	e, in := op(api.OpNot, v("a")), []api.Param{{Name: "a", Type: 1}}
	item := api.Item{Kind: api.Import, Name: "k", Args: []api.Expr{e, e}}
	u := api.Unit{Name: "f", In: in, Vars: in, Eqs: []api.Equation{{E: e}, {E: e}}, Items: []api.Item{item, item, {E: e, F: e}}}
	p := api.Prog{Units: []api.Unit{u, u}}
	for i := range expressions(list.Order(p).Units) {
		o := list.Order(p)
		l := expressions(o.Units)
		over(*l[i], api.Node{})
		for j, x := range l {
			if want := slices.Equal(*x, e); want == (i == j) && len(*x) > 0 {
				t.Errorf("P7.1: expressions %d and %d share memory", i, j)
			}
		}
	}
	o := list.Order(p)
	scrawl(api.Prog{Units: o.Units[:1:1]})
	if !sameUnit(o.Units[1], list.Order(p).Units[1]) {
		t.Error("P7.1: units share memory")
	}
	o = list.Order(p)
	over(o.Units[0].In, api.Param{})
	over(o.Units[0].Items[0].Args, nil)
	if o.Units[0].Vars[0].Name != "a" || len(o.Units[0].Items[1].Args[1]) != 2 {
		t.Error("P7.1: lists of a unit share memory")
	}
}

// Whatever is handed in: each call ends, and what can't be written is not.
func TestAnythingEnds(t *testing.T) {
	m := maker{rand.New(rand.NewSource(23))}
	may := 0
	for range 3000 {
		p := m.prog()
		for range m.r.Intn(3) {
			for i := range p.Units {
				u := &p.Units[i]
				switch m.r.Intn(12) {
				case 0:
					u.Contract = !u.Contract
				case 1:
					u.Items = append(u.Items, api.Item{Kind: m.r.Intn(8) - 1, Name: []string{"", "a", "A"}[m.r.Intn(3)], Type: m.r.Intn(4) - 1, E: m.expr()})
				case 2:
					u.Out = api.Param{}
				case 3:
					u.Eqs = append(u.Eqs, api.Equation{Name: "a", E: bad()[m.r.Intn(15)]})
				case 4:
					u.Vars = append(u.Vars, api.Param{Name: "a", Type: m.r.Intn(4)})
				}
			}
		}
		kept := copied(p)
		s := list.Write(p)
		if list.May(p) {
			may++
			if s != said(t, p) {
				t.Fatalf("P7.2: %q", s)
			}
			if q, f := prog.Parse(s); f.Code != api.OK || !same(q, list.Order(p)) {
				t.Fatalf("P7.3: %q: %v", s, f)
			}
		} else if s != "" {
			t.Fatalf("P7.2: %q", s)
		}
		list.Order(p)
		if !same(p, kept) {
			t.Fatalf("R5: %v is changed", kept)
		}
	}
	if may < 800 || may > 2800 {
		t.Errorf("%d can be written", may)
	}
}
