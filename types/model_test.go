package types_test

import (
	"fmt"
	"math/rand"
	"slices"
	"testing"

	"bailment/api"
	"bailment/tree"
	"bailment/types"
)

// model is what the chapter says, told in another way: down from the last node,
// names looked up in lists, and all faults of a unit noted.
type model struct {
	streams []api.Param
	units   []api.Unit
	why     string // of the last error
}

func (m *model) fails(why string, code api.Errno) (int, api.Errno) {
	m.why = why
	return 0, code
}

// operands are those of a node; of a call its arguments.
func operands(e api.Expr, n api.Node) []int {
	if n.Op != api.OpCall {
		return tree.Kids(n)
	}
	var l []int
	for k := n.A; k != -1; k = e[k].B {
		l = append([]int{e[k].A}, l...)
	}
	return l
}

func (m *model) of(e api.Expr, i int) (int, api.Errno) {
	var l []int
	for _, k := range operands(e, e[i]) {
		x, fault := m.of(e, k)
		if fault != api.OK {
			return 0, fault
		}
		l = append(l, x)
	}
	switch e[i].Op {
	case api.OpVar:
		for _, p := range m.streams {
			if p.Name == e[i].Name {
				return p.Type, api.OK
			}
		}
		return m.fails("name", api.ErrName)
	case api.OpCall:
		return m.call(e[i].Name, l)
	}
	x, fault := result(said[e[i].Op], l)
	if fault != api.OK {
		return m.fails("operands", fault)
	}
	return x, api.OK
}

func (m *model) call(name string, l []int) (int, api.Errno) {
	for _, u := range m.units {
		if u.Name != name || u.Contract {
			continue
		}
		if len(u.In) != len(l) {
			return m.fails("count", api.ErrCall)
		}
		for i, p := range u.In {
			if p.Type != l[i] {
				return m.fails("argument", api.ErrType)
			}
		}
		return u.Out.Type, api.OK
	}
	return m.fails("call", api.ErrCall)
}

// faults are all those of a unit, in their order.
func (m *model) faults(u api.Unit, ahead []api.Unit) (faults []api.Errno, why []string) {
	own := slices.Clone(u.In)
	if !u.Contract {
		own = append(append(own, u.Out), u.Vars...)
	}
	note := func(what string, e api.Expr, asked int) {
		x, fault := m.of(e, len(e)-1)
		if fault == api.OK && x != asked {
			fault, m.why = api.ErrType, "type"
		}
		if fault != api.OK {
			faults, why = append(faults, fault), append(why, what+": "+m.why)
		}
	}
	m.streams, m.units = own, nil
	for _, i := range u.Items {
		switch i.Kind {
		case api.Assume, api.Guarantee:
			note("item", i.E, api.Bool)
		case api.Mode:
			note("mode", i.E, api.Bool)
			note("mode", i.F, api.Bool)
		case api.Ghost:
			note("ghost", i.E, i.Type)
			m.streams = append(m.streams, api.Param{Name: i.Name, Type: i.Type})
		}
	}
	m.streams, m.units = own, ahead
	for _, q := range u.Eqs {
		at := slices.IndexFunc(own, func(p api.Param) bool { return p.Name == q.Name })
		if at < 0 {
			faults, why = append(faults, api.ErrName), append(why, "equation's name")
			continue
		}
		note("equation", q.E, own[at].Type)
	}
	return faults, why
}

// maker makes what has a type most times.
type maker struct {
	r       *rand.Rand
	streams []api.Param
	units   []api.Unit
	rare    int // once in so many times something is wrong
}

func (m *maker) once(n int) bool { return m.r.Intn(n) == 0 }

func (m *maker) any() int { return []int{api.Bool, api.Int, api.Bool, api.Int, 0, 3}[m.r.Intn(6)] }

func (m *maker) param() api.Param {
	return api.Param{Name: string(rune('a' + m.r.Intn(8))), Type: m.any()}
}

// params are some streams; those of one name are seldom.
func (m *maker) params(most int) []api.Param {
	var l []api.Param
	for range m.r.Intn(most + 1) {
		p := m.param()
		if !slices.ContainsFunc(l, func(q api.Param) bool { return p.Name == q.Name }) || m.once(5) {
			l = append(l, p)
		}
	}
	return l
}

func (m *maker) leaf(asked int) api.Expr {
	if m.once(2 * m.rare) {
		return v("z")
	}
	if asked == api.Bool && m.once(3) {
		return tree.Join(api.OpBool, m.r.Intn(2), "")
	}
	if asked == api.Int && m.once(3) || len(m.streams) == 0 {
		return tree.Join(api.OpNum, m.r.Intn(9), "")
	}
	for range 20 {
		if p := m.streams[m.r.Intn(len(m.streams))]; p.Type == asked {
			return v(p.Name)
		}
	}
	return op(api.OpPre, v(m.streams[m.r.Intn(len(m.streams))].Name))
}

// expr is an expression, most times of the type that is asked for.
func (m *maker) expr(asked int, deep int) api.Expr {
	if m.once(m.rare) {
		asked = m.any()
	}
	if deep <= 1 || m.once(5) {
		return m.leaf(asked)
	}
	if len(m.units) > 0 && m.once(5) {
		u := m.units[m.r.Intn(len(m.units))]
		if u.Out.Type == asked && !u.Contract || m.once(m.rare) {
			return m.call(u, deep)
		}
	}
	if m.once(m.rare) {
		return call([]string{"q", "k", "u0"}[m.r.Intn(3)])
	}
	var fit []int
	for o := api.OpNot; o <= api.OpIf; o++ {
		is := said[o]
		if is != "" && (is[len(is)-1] == 'x' || is[len(is)-1] == 'b' && asked == api.Bool || is[len(is)-1] == 'i' && asked == api.Int) {
			fit = append(fit, o)
		}
	}
	o, alike := fit[m.r.Intn(len(fit))], asked
	if o == api.OpEq || o == api.OpNe {
		alike = m.any()
	}
	var parts []api.Expr
	for _, k := range said[o] {
		if k == '>' {
			break
		}
		parts = append(parts, m.expr(map[rune]int{'b': api.Bool, 'i': api.Int, 'x': alike}[k], deep-1))
	}
	return op(o, parts...)
}

func (m *maker) call(u api.Unit, deep int) api.Expr {
	var parts []api.Expr
	for _, p := range u.In {
		parts = append(parts, m.expr(p.Type, deep-1-len(u.In)))
	}
	if m.once(m.rare) {
		parts = append(parts, m.leaf(m.any()))
	}
	return call(u.Name, parts...)
}

// unit is a unit's head.
func (m *maker) unit() api.Unit {
	u := api.Unit{Name: fmt.Sprint("u", m.r.Intn(5)), Contract: m.once(4), In: m.params(3), Out: m.param(), Vars: m.params(3)}
	if u.Contract && m.once(2) {
		u.Out, u.Vars = api.Param{}, nil
	}
	return u
}

// filled is a unit with items and equations.
func (m *maker) filled(ahead []api.Unit) api.Unit {
	u := m.unit()
	own := slices.Clone(u.In)
	if !u.Contract {
		own = append(append(own, u.Out), u.Vars...)
	}
	m.streams, m.units = own, nil
	for range m.r.Intn(4) {
		if m.once(m.rare) {
			m.units = ahead
		}
		kind := 1 + m.r.Intn(6)
		i := api.Item{Kind: kind, E: m.expr(api.Bool, 4), F: m.expr(api.Bool, 4)}
		if kind == api.Ghost {
			i.Name, i.Type = m.param().Name, m.any()
			i.E = m.expr(i.Type, 4)
			m.streams = append(m.streams, api.Param{Name: i.Name, Type: i.Type})
		}
		i.E, i.F = shuffled(m.r, i.E), shuffled(m.r, i.F)
		u.Items = append(u.Items, i)
	}
	if !m.once(m.rare) {
		m.streams = own
	}
	m.units = ahead
	for range m.r.Intn(4) {
		if len(m.streams) == 0 {
			break
		}
		p := m.streams[m.r.Intn(len(m.streams))]
		if m.once(m.rare) {
			p = m.param()
		}
		u.Eqs = append(u.Eqs, api.Equation{Name: p.Name, E: shuffled(m.r, m.expr(p.Type, 5))})
	}
	return u
}

// shuffled is an expression whose nodes stand in another order, operands ahead.
func shuffled(r *rand.Rand, e api.Expr) api.Expr {
	var out api.Expr
	to := map[int]int{-1: -1}
	for len(out) < len(e) {
		i := r.Intn(len(e))
		n := e[i]
		_, put := to[i]
		a, okA := to[n.A]
		b, okB := to[n.B]
		c, okC := to[n.C]
		if put || !okA || !okB || !okC {
			continue
		}
		n.A, n.B, n.C = a, b, c
		to[i] = len(out)
		out = append(out, n)
	}
	return out
}

// holds tells what is so of all expressions that have a type.
func holds(t *testing.T, e api.Expr, is int, streams []api.Param, units []api.Unit) {
	t.Helper()
	if x, fault := types.Of(tree.Sub(e, len(e)-1), streams, units); x != is || fault != api.OK {
		t.Fatalf("P9.3: %v in order: %d, %d", e, x, fault)
	}
	for i, n := range e {
		if n.Op == api.OpArgs {
			continue
		}
		if _, fault := types.Of(tree.Sub(e, i), streams, units); fault != api.OK {
			t.Fatalf("P9.3: node %d of %v: %d", i, e, fault)
		}
	}
}

func TestManyExpressions(t *testing.T) {
	m := &maker{r: rand.New(rand.NewSource(9)), rare: 40}
	seen := map[string]int{}
	for range 40000 {
		m.streams, m.units = m.params(6), nil
		for range m.r.Intn(5) {
			m.units = append(m.units, m.unit())
		}
		e := shuffled(m.r, m.expr(m.any(), 2+m.r.Intn(6)))
		said := &model{streams: m.streams, units: m.units, why: "none"}
		want, fault := said.of(e, len(e)-1)
		if fault == api.OK {
			said.why = "none"
		}
		seen[said.why]++
		kept, streams, units := slices.Clone(e), slices.Clone(m.streams), fmt.Sprint(m.units)
		is(t, e, m.streams, m.units, want, fault)
		if !slices.Equal(e, kept) || !slices.Equal(streams, m.streams) || units != fmt.Sprint(m.units) {
			t.Fatalf("R5: %v is changed", kept)
		}
		if fault == api.OK {
			holds(t, e, want, m.streams, m.units)
		}
	}
	for _, why := range []string{"none", "name", "operands", "call", "count", "argument"} {
		if seen[why] < 100 {
			t.Errorf("%s: seen %d times", why, seen[why])
		}
	}
}

func TestManyPrograms(t *testing.T) {
	m := &maker{r: rand.New(rand.NewSource(10)), rare: 100}
	seen := map[string]int{}
	for range 12000 {
		var p api.Prog
		for range m.r.Intn(6) {
			p.Units = append(p.Units, m.filled(p.Units))
		}
		want, why := api.Fault{}, "none"
		for i, u := range p.Units {
			if faults, whys := new(model).faults(u, p.Units[:i]); len(faults) > 0 {
				want, why = api.Fault{Code: faults[0], At: i}, whys[0]
				break
			}
		}
		seen[why]++
		kept := fmt.Sprint(p)
		checks(t, why+": "+kept, p, want)
		if fmt.Sprint(p) != kept {
			t.Fatalf("R5: %s is changed", kept)
		}
		if t.Failed() {
			return
		}
	}
	for _, why := range []string{"none", "equation's name", "equation: type", "equation: name", "equation: operands", "equation: call", "equation: count", "equation: argument", "item: type", "item: name", "item: operands", "item: call", "ghost: type", "ghost: name", "ghost: operands", "ghost: call", "mode: type", "mode: name", "mode: operands", "mode: call"} {
		if seen[why] < 20 {
			t.Errorf("%s: seen %d times", why, seen[why])
		}
	}
}
