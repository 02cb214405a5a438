package names_test

import (
	"fmt"
	"math/rand"
	"slices"
	"strings"
	"testing"

	"bailment/api"
	"bailment/expr"
	"bailment/lex"
	"bailment/list"
	"bailment/names"
	"bailment/show"
	"bailment/tree"
)

// model is what P8.2 says, told in another way: all faults are noted, the first
// one is the answer; and what is imported is put together as texts.
type model struct {
	units  []api.Unit
	faults []api.Fault
	why    []string // the clause of each fault
}

func (m *model) unless(holds bool, why string, code api.Errno, at int) {
	if !holds {
		m.faults, m.why = append(m.faults, api.Fault{Code: code, At: at}), append(m.why, why)
	}
}

// walk goes through an expression's nodes, operands ahead.
func walk(e api.Expr, i int, see func(n api.Node)) {
	for _, k := range tree.Kids(e[i]) {
		walk(e, k, see)
	}
	see(e[i])
}

func nameOf(p api.Param) string { return p.Name }

func mapped[T, U any](l []T, to func(T) U) []U {
	var out []U
	for _, x := range l {
		out = append(out, to(x))
	}
	return out
}

// find is the unit of a name among those ahead.
func find(ahead []api.Unit, name string, contract bool) (api.Unit, bool) {
	for _, u := range ahead {
		if u.Name == name {
			return u, u.Contract == contract
		}
	}
	return api.Unit{}, false
}

func twice(l []string) bool {
	for i, x := range l {
		if slices.Contains(l[:i], x) {
			return true
		}
	}
	return false
}

func (m *model) run(p api.Prog) {
	for i, u := range p.Units {
		ahead := slices.Clone(m.units)
		_, node := find(ahead, u.Name, false)
		_, contract := find(ahead, u.Name, true)
		m.unless(!node && !contract, "1", api.ErrTwice, i)
		streams, told := mapped(u.In, nameOf), []string(nil)
		if !u.Contract {
			told = append([]string{u.Out.Name}, mapped(u.Vars, nameOf)...)
		}
		streams = append(streams, told...)
		m.unless(!twice(streams), "2", api.ErrTwice, i)
		var put []api.Item
		for _, x := range u.Items {
			put = m.item(i, streams, put, x)
		}
		u.Items = put
		m.equations(i, u, streams, told)
		for j := range u.Eqs {
			u.Eqs[j].E, _ = expr.Read(show.Show(u.Eqs[j].E))
		}
		m.units = append(m.units, u)
	}
	first, ok := find(m.units, p.Main, false)
	m.unless(ok, "main", api.ErrName, -1)
	if p.Back != "" {
		back, ok := find(m.units, p.Back, false)
		m.unless(ok, "back", api.ErrCall, -1)
		m.unless(fmt.Sprint(first.In) == fmt.Sprint(back.In), "back's inputs", api.ErrCall, -1)
		m.unless(first.Out == back.Out, "back's output", api.ErrCall, -1)
	}
}

// ghosts are the names of those that were put.
func ghosts(put []api.Item) []string {
	var l []string
	for _, x := range put {
		if x.Kind == api.Ghost {
			l = append(l, x.Name)
		}
	}
	return l
}

func (m *model) item(i int, streams []string, put []api.Item, x api.Item) []api.Item {
	for _, e := range slices.Concat([]api.Expr{x.E, x.F}, x.Args) {
		if len(e) == 0 {
			continue
		}
		walk(e, len(e)-1, func(n api.Node) {
			m.unless(n.Op != api.OpVar || slices.Contains(streams, n.Name) || slices.Contains(ghosts(put), n.Name), "an item's name", api.ErrName, i)
			m.unless(n.Op != api.OpCall, "an item's call", api.ErrCall, i)
		})
	}
	if x.Kind != api.Import {
		x.E, _ = expr.Read(show.Show(x.E))
		x.F, _ = expr.Read(show.Show(x.F))
		return m.put(i, streams, put, x, "")
	}
	k, ok := find(m.units, x.Name, true)
	m.unless(ok, "an import's name", api.ErrName, i)
	m.unless(len(k.In) == len(x.Args), "an import's arguments", api.ErrCall, i)
	if !ok || len(k.In) != len(x.Args) {
		return put
	}
	by := map[string]string{}
	for j, s := range k.In {
		by[s.Name] = show.Show(x.Args[j])
	}
	for _, name := range ghosts(k.Items) {
		by[name] = x.Name + "_" + name
	}
	for _, y := range k.Items {
		if y.Kind == api.Ghost || y.Kind == api.Mode {
			y.Name = x.Name + "_" + y.Name
			m.unless(lex.IsName(y.Name), "a name that is imported", api.ErrName, i)
		}
		for _, e := range []*api.Expr{&y.E, &y.F} {
			if len(*e) > 0 {
				var f api.Fault
				*e, f = expr.Read(filled(show.Show(*e), by))
				m.unless(f.Code == api.OK, "an expression that is imported", api.ErrMany, i)
			}
		}
		put = m.put(i, streams, put, y, " that is imported")
	}
	return put
}

// filled is a text with texts in the places of its streams.
func filled(s string, by map[string]string) string {
	l := strings.Fields(s)
	for i, word := range l {
		if to, ok := by[word]; ok && (i+1 == len(l) || l[i+1] != "(") {
			l[i] = "( " + to + " )"
		}
	}
	return strings.Join(l, " ")
}

func (m *model) put(i int, streams []string, put []api.Item, x api.Item, how string) []api.Item {
	m.unless(x.Kind != api.Ghost || !slices.Contains(slices.Concat(streams, ghosts(put)), x.Name), "a ghost"+how, api.ErrTwice, i)
	m.unless(len(put) < 200, "items", api.ErrMany, i)
	return append(put, x)
}

func (m *model) equations(i int, u api.Unit, streams, told []string) {
	names := mapped(u.Eqs, func(q api.Equation) string { return q.Name })
	for j, q := range u.Eqs {
		m.unless(slices.Contains(told, q.Name), "an equation's name", api.ErrName, i)
		m.unless(!slices.Contains(names[:j], q.Name), "an equation twice", api.ErrTwice, i)
		walk(q.E, len(q.E)-1, func(n api.Node) {
			switch n.Op {
			case api.OpVar:
				m.unless(!slices.Contains(ghosts(u.Items), n.Name), "a ghost in an equation", api.ErrGhost, i)
				m.unless(slices.Contains(streams, n.Name), "a name in an equation", api.ErrName, i)
			case api.OpCall:
				f, ok := find(m.units, n.Name, false)
				m.unless(ok, "a call's name", api.ErrCall, i)
				count := 0
				for k := n.A; k != -1; k = q.E[k].B {
					count++
				}
				m.unless(count == len(f.In), "a call's arguments", api.ErrCall, i)
			}
		})
	}
	for _, name := range told {
		m.unless(slices.Contains(names, name), "a stream without an equation", api.ErrName, i)
	}
}

// maker makes programs, most of which mean something.
type maker struct {
	r     *rand.Rand
	p     api.Prog
	known []string
}

// once in n times it is true.
func (m *maker) once(n int) bool { return m.r.Intn(n) == 0 }

func (m *maker) one(l ...string) string { return l[m.r.Intn(len(l))] }

func (m *maker) variable() api.Expr {
	if len(m.known) == 0 || m.once(400) {
		return tree.Join(api.OpNum, m.r.Intn(9), "")
	}
	if m.once(200) {
		return v(m.one("z", "g", "h", "a", "b", "u0_g", "u0"))
	}
	return v(m.one(m.known...))
}

// expr is an expression; where calls may stand, of nodes ahead.
func (m *maker) expr(deep int, calls bool) api.Expr {
	switch n := m.r.Intn(12); {
	case deep <= 1 || n < 3:
		return m.variable()
	case n == 3 || n == 4 && m.once(60):
		name, count, ok := m.unitAhead(false)
		if !ok || !calls && !m.once(60) {
			return nots(1, m.variable())
		}
		var args []api.Expr
		for range count {
			args = append(args, m.expr(deep-1, calls))
		}
		return call(name, args...)
	case n == 5:
		return op(api.OpIf, m.expr(deep-1, calls), m.expr(deep-1, calls), m.expr(deep-1, calls))
	case n == 6 && m.once(4):
		return nots(m.r.Intn(38), m.variable())
	case n == 7 && m.once(20) && len(m.known) > 0:
		return sum(m.one(m.known...), 1+2*m.r.Intn(60))
	default:
		return op(api.OpAnd+m.r.Intn(14), m.expr(deep-1, calls), m.expr(deep-1, calls))
	}
}

// unitAhead is the name of a unit, and how many inputs it has, if there is one; most times it is right.
func (m *maker) unitAhead(contract bool) (string, int, bool) {
	var l []api.Unit
	for _, u := range m.p.Units {
		if u.Contract == contract || m.once(80) {
			l = append(l, u)
		}
	}
	if m.once(60) {
		return m.one("q", "u0", "u1", "u2"), m.r.Intn(3), true
	}
	if len(l) == 0 {
		return "", 0, false
	}
	u := l[m.r.Intn(len(l))]
	if m.once(60) {
		return u.Name, m.r.Intn(4), true
	}
	return u.Name, len(u.In), true
}

func (m *maker) item() api.Item {
	e := func() api.Expr { return shuffled(m.r, m.expr(4, false)) }
	name := m.one("g", "h", "i", "j", "m", "n", "u0_g", strings.Repeat("l", 34+m.r.Intn(5)))
	switch m.r.Intn(6) {
	case 0:
		return assume(e())
	case 1:
		return api.Item{Kind: api.Guarantee, E: e()}
	case 2:
		return mode(name, e(), e())
	case 3:
		x := ghost(name, e())
		x.Type = 1 + m.r.Intn(2)
		if !slices.Contains(m.known, name) || m.once(2) {
			m.known = append(m.known, name)
			return x
		}
		return assume(e())
	}
	name, count, ok := m.unitAhead(true)
	if !ok {
		return assume(e())
	}
	var args []api.Expr
	for range count {
		args = append(args, e())
	}
	if k, ok := find(m.p.Units, name, true); ok {
		for _, g := range ghosts(k.Items) {
			m.known = append(m.known, name+"_"+g)
		}
	}
	return imports(name, args...)
}

func (m *maker) unit(i int) api.Unit {
	u := api.Unit{Contract: m.r.Intn(2) == 0, Name: fmt.Sprintf("u%d", i)}
	if m.once(60) {
		u.Name = "u0"
	}
	for _, name := range []string{"a", "b", "a"}[:min(m.r.Intn(3)+m.r.Intn(80)/79, 3)] {
		u.In = append(u.In, api.Param{Name: name, Type: 1 + m.r.Intn(2)})
	}
	if !u.Contract {
		u.Out = api.Param{Name: "o", Type: 1 + m.r.Intn(2)}
		for _, name := range []string{"x", "y", "u0_g", "o"}[:m.r.Intn(3)+m.r.Intn(60)/59+m.r.Intn(60)/59] {
			u.Vars = append(u.Vars, api.Param{Name: name, Type: 1 + m.r.Intn(2)})
		}
	}
	m.known = mapped(u.In, nameOf)
	if !u.Contract {
		m.known = append(append(m.known, "o"), mapped(u.Vars, nameOf)...)
	}
	streams := slices.Clone(m.known)
	if m.once(6) && u.Contract {
		u.Items = slices.Repeat([]api.Item{assume(m.variable())}, 50+m.r.Intn(80))
	}
	for range m.r.Intn(4) {
		u.Items = append(u.Items, m.item())
	}
	if !m.once(8) {
		m.known = streams
	}
	if !u.Contract {
		m.equations(&u)
	}
	return u
}

func (m *maker) equations(u *api.Unit) {
	for _, s := range append([]api.Param{u.Out}, u.Vars...) {
		if m.once(50) {
			continue
		}
		u.Eqs = append(u.Eqs, api.Equation{Name: s.Name, E: shuffled(m.r, m.expr(4, true))})
		if m.once(60) {
			u.Eqs = append(u.Eqs, api.Equation{Name: m.one("o", "a", "z", "g"), E: m.variable()})
		}
	}
	if m.once(40) && len(u.Eqs) > 0 {
		g := ghosts(u.Items)
		u.Eqs[0].E = op(api.OpAdd, m.expr(2, true), v(append(g, "g")[0]))
	}
	m.r.Shuffle(len(u.Eqs), func(i, j int) { u.Eqs[i], u.Eqs[j] = u.Eqs[j], u.Eqs[i] })
}

func (m *maker) prog() api.Prog {
	m.p = api.Prog{}
	for i := range 1 + m.r.Intn(5) {
		m.p.Units = append(m.p.Units, m.unit(i))
	}
	last := len(m.p.Units) - 1
	m.p.Units[last].Contract = false
	if m.p.Units[last].Out.Name == "" {
		m.p.Units[last] = node(m.p.Units[last].Name)
	}
	m.p.Main = m.p.Units[last].Name
	if m.once(20) {
		m.p.Main = m.one("u0", "u1", "q")
	}
	if m.once(3) {
		m.p.Back = m.one(m.p.Main, m.p.Main, "u0", "u1", "u2", "q")
	}
	return m.p
}

// shuffled is an expression whose nodes stand in another order, operands ahead.
func shuffled(r *rand.Rand, e api.Expr) api.Expr {
	to := make([]int, len(e))
	for i := range to {
		to[i] = -1
	}
	var out api.Expr
	for len(out) < len(e) {
		i := r.Intn(len(e))
		n := e[i]
		if to[i] >= 0 || slices.ContainsFunc(tree.Kids(n), func(k int) bool { return to[k] < 0 }) {
			continue
		}
		for _, f := range []*int{&n.A, &n.B, &n.C} {
			if *f >= 0 {
				*f = to[*f]
			}
		}
		to[i] = len(out)
		out = append(out, n)
	}
	return out
}

func TestMany(t *testing.T) {
	m := &maker{r: rand.New(rand.NewSource(31))}
	seen := map[string]int{}
	for range 15000 {
		p := m.prog()
		if !list.May(p) {
			seen["can't be written"]++
			if _, f := names.Resolve(p); f != (api.Fault{Code: api.ErrArg, At: -1}) {
				t.Fatalf("P8.2: %v", f)
			}
			continue
		}
		kept := copied(p)
		q, f := names.Resolve(p)
		if !same(p, kept) {
			t.Fatalf("R5: %v is changed", kept)
		}
		said := &model{}
		said.run(copied(p))
		if len(said.faults) > 0 {
			seen[said.why[0]]++
			if f != said.faults[0] || len(q.Units) != 0 || q.Main != "" || q.Back != "" {
				t.Fatalf("P8.2: %q: %v, not %v (%s)", list.Write(p), f, said.faults[0], said.why[0])
			}
			continue
		}
		seen["none"]++
		if f != (api.Fault{}) || !same(q, api.Prog{Units: said.units, Main: p.Main, Back: p.Back}) {
			t.Fatalf("P8.2: %q: %v, %q", list.Write(p), f, list.Write(q))
		}
		settled(t, q)
		for i, u := range p.Units {
			if names.Find(q, u.Name) != i || names.Find(p, u.Name) != i {
				t.Fatalf("P8.1: %q", u.Name)
			}
		}
	}
	for _, why := range []string{"none", "1", "2", "main", "back", "back's inputs", "back's output", "an item's name", "an item's call", "an import's name", "an import's arguments", "a name that is imported", "an expression that is imported", "a ghost", "a ghost that is imported", "items", "an equation's name", "an equation twice", "a ghost in an equation", "a name in an equation", "a call's name", "a call's arguments", "a stream without an equation"} {
		if seen[why] < 20 {
			t.Errorf("%s: seen %d times", why, seen[why])
		}
	}
}
