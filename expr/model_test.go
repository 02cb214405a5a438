package expr_test

import (
	"math/rand"
	"slices"
	"strconv"
	"strings"
	"testing"

	"bailment/api"
	"bailment/expr"
	"bailment/lex"
	"bailment/tree"
)

// open is what has begun and not ended: an operator that waits for its right
// operand, or what stands between words or round signs.
type open struct {
	what  string // "binary", "prefix", "(", "call", "if", "then" or "else"
	bin   binary
	op, n int
	name  string
	parts []size
}

// size is an expression, and its measure; without limits it would be too long to keep.
type size struct {
	e           api.Expr
	nodes, deep int
}

func made(op, n int, name string, parts ...size) size {
	s := size{nodes: 1, deep: 1}
	var l []api.Expr
	for _, p := range parts {
		l = append(l, p.e)
		s.nodes += p.nodes
	}
	if op == api.OpCall {
		s.nodes += len(parts)
		for i, p := range parts {
			s.deep = max(s.deep, p.deep+1+len(parts)-i)
		}
	} else {
		for _, p := range parts {
			s.deep = max(s.deep, p.deep+1)
		}
	}
	if s.nodes <= 5000 && s.deep <= 40 {
		s.e = tree.Join(op, n, name, l...)
	}
	return s
}

// model reads as the chapter says, by two stacks instead of calls: what waits, and what is whole.
type model struct {
	l     []api.Token
	i     int
	waits []open
	whole []size
}

func (m *model) text() string {
	if m.i < len(m.l) && (m.l[m.i].Kind == api.TokWord || m.l[m.i].Kind == api.TokSign) {
		return m.l[m.i].Text
	}
	return ""
}

func (m *model) kind() int {
	if m.i < len(m.l) {
		return m.l[m.i].Kind
	}
	return 0
}

func (m *model) fault(code api.Errno) *api.Fault {
	if m.i < len(m.l) {
		return &api.Fault{Code: code, At: m.l[m.i].At}
	}
	return &api.Fault{Code: code, At: -1}
}

func (m *model) pop() size {
	s := m.whole[len(m.whole)-1]
	m.whole = m.whole[:len(m.whole)-1]
	return s
}

func (m *model) top() *open {
	if len(m.waits) == 0 {
		return &open{}
	}
	return &m.waits[len(m.waits)-1]
}

// ended puts an operand that is whole under the operators that stand ahead of it.
func (m *model) ended(s size) {
	for m.top().what == "prefix" {
		s = made(m.top().op, m.top().n, "", s)
		m.waits = m.waits[:len(m.waits)-1]
	}
	m.whole = append(m.whole, s)
}

// settle joins what waits and is tighter than a level, or as tight and put together from the left.
func (m *model) settle(level int) {
	for m.top().what == "binary" && (m.top().bin.level > level || m.top().bin.level == level && level > 2 && level != 6) {
		b := m.top().bin
		m.waits = m.waits[:len(m.waits)-1]
		right := m.pop()
		left := m.pop()
		if b.turn {
			left, right = right, left
		}
		m.whole = append(m.whole, made(b.op, 0, "", left, right))
	}
}

// begin reads tokens up to an operand of level 10 that has ended.
func (m *model) begin() *api.Fault {
	for {
		begun := 0
		for _, o := range m.waits {
			if o.what != "binary" {
				begun++
			}
		}
		if begun >= 200 {
			return m.fault(api.ErrDeep)
		}
		if p, ok := find(prefixes, func(p prefix) bool { return p.text == m.text() }); ok {
			m.i++
			o := open{what: "prefix", op: p.op}
			if p.op == api.OpWithin {
				if m.kind() != api.TokNum {
					return m.fault(api.ErrSyntax)
				}
				if o.n, _ = strconv.Atoi(m.l[m.i].Text); o.n > 1000 {
					return m.fault(api.ErrSyntax)
				}
				m.i++
			}
			m.waits = append(m.waits, o)
			continue
		}
		switch t := m.text(); {
		case t == "(" || t == "if":
			m.i++
			m.waits = append(m.waits, open{what: t})
			continue
		case t == "true":
			m.ended(made(api.OpBool, 1, ""))
		case t == "false":
			m.ended(made(api.OpBool, 0, ""))
		case m.kind() == api.TokNum:
			k, _ := strconv.Atoi(m.l[m.i].Text)
			m.ended(made(api.OpNum, k, ""))
		case m.kind() == api.TokName:
			name := m.l[m.i].Text
			m.i++
			if m.text() != "(" {
				m.ended(made(api.OpVar, 0, name))
				return nil
			}
			m.i++
			if m.text() != ")" {
				m.waits = append(m.waits, open{what: "call", name: name})
				continue
			}
			m.ended(made(api.OpCall, 0, name))
		default:
			return m.fault(api.ErrSyntax)
		}
		m.i++
		return nil
	}
}

// goOn reads a token behind an operand: it tells whether another operand must follow, or all is at its end.
func (m *model) goOn() (more bool, end bool, f *api.Fault) {
	t := m.text()
	if b, ok := find(binaries, func(b binary) bool { return b.text == t }); ok {
		m.settle(b.level)
		if b.level != 6 || m.top().what != "binary" || m.top().bin.level != 6 {
			m.i++
			m.waits = append(m.waits, open{what: "binary", bin: b})
			return true, false, nil
		}
	}
	m.settle(0)
	o := m.top()
	next := map[string]string{"if": "then", "then": "else"}[o.what]
	switch {
	case o.what == "":
		return false, true, nil
	case o.what == "else": // whatever cannot go on with it ends it
		s := m.pop()
		parts := append(o.parts, s)
		m.waits = m.waits[:len(m.waits)-1]
		m.ended(made(api.OpIf, 0, "", parts...))
		return false, false, nil
	case next != "" && t == next:
		o.parts, o.what = append(o.parts, m.pop()), next
	case o.what == "call" && t == ",":
		o.parts = append(o.parts, m.pop())
	case o.what == "call" && t == ")":
		parts, name := append(o.parts, m.pop()), o.name
		m.waits = m.waits[:len(m.waits)-1]
		m.ended(made(api.OpCall, 0, name, parts...))
		m.i++
		return false, false, nil
	case o.what == "(" && t == ")":
		s := m.pop()
		m.waits = m.waits[:len(m.waits)-1]
		m.ended(s)
		m.i++
		return false, false, nil
	default:
		return false, false, m.fault(api.ErrSyntax)
	}
	m.i++
	return true, false, nil
}

func said(l []api.Token, from int) (api.Expr, int, api.Fault) {
	m := &model{l: l, i: from}
	if f := m.begin(); f != nil {
		return nil, 0, *f
	}
	for {
		more, end, f := m.goOn()
		if end {
			break
		}
		if f == nil && more {
			f = m.begin()
		}
		if f != nil {
			return nil, 0, *f
		}
	}
	s := m.pop()
	if s.nodes > 5000 {
		return nil, 0, api.Fault{Code: api.ErrMany, At: l[from].At}
	}
	if s.deep > 40 {
		return nil, 0, api.Fault{Code: api.ErrDeep, At: l[from].At}
	}
	return s.e, m.i, api.Fault{}
}

// asSaid holds Parse and Read against the model, and tells whether the tokens may go on.
func asSaid(t *testing.T, s string) bool {
	t.Helper()
	l, f := lex.Lex(s)
	if f.Code != api.OK {
		t.Fatalf("%.100q: %v", s, f)
	}
	kept := slices.Clone(l)
	e, next, f := expr.Parse(l, 0)
	want, wantNext, wantF := said(l, 0)
	if !slices.Equal(e, want) || next != wantNext || f != wantF || f.Code == api.OK && !tree.May(e) {
		t.Fatalf("P4.2: %.300q: %d nodes, %d, %v; not %d, %d, %v", s, len(e), next, f, len(want), wantNext, wantF)
	}
	if f.Code == api.OK && next < len(l) {
		e, f = nil, api.Fault{Code: api.ErrSyntax, At: l[next].At}
	}
	if again, againF := expr.Read(s); !slices.Equal(again, e) || againF != f {
		t.Fatalf("P4.3: %.300q: %d nodes, %v; not %d, %v", s, len(again), againF, len(e), f)
	}
	if !slices.Equal(l, kept) {
		t.Fatalf("R5: %.300q: tokens are changed", s)
	}
	return f.Code != api.ErrSyntax || f.At < 0
}

const vocabulary = "a 1 true ( ) , if then else -> => since or = > - * not pre within 2 1001 f ;"

func TestAllShortRows(t *testing.T) {
	words := strings.Fields(vocabulary)
	seen := 0
	var all func(s string, k int)
	all = func(s string, k int) {
		if seen++; !asSaid(t, s) || k == 0 {
			return
		}
		for _, w := range words {
			all(s+" "+w, k-1)
		}
	}
	all("", 4)
	if seen < 20000 {
		t.Errorf("%d rows", seen)
	}
}

func TestManyRows(t *testing.T) {
	words := append(strings.Fields(vocabulary), "f(", "f()", "false", "xor", "and", "<", "<>", "<=", ">=", "+", "div", "mod", "once", "hist", "prev", "within 9", "g ( b ,", "node", "(", ")", ")", "(", ")", "a", "b", "c", "else", "then")
	r := rand.New(rand.NewSource(9))
	whole := 0
	for range 600 {
		s := ""
		for range 1 + r.Intn(25) {
			// A row that may not go on any more tells nothing more.
			for next := ""; ; {
				if next = s + " " + words[r.Intn(len(words))]; asSaid(t, next) || r.Intn(50) == 0 {
					s = next
					break
				}
			}
		}
		if e, _ := expr.Read(s); len(e) > 0 {
			whole++
		}
	}
	if whole < 10 {
		t.Errorf("%d rows are whole", whole)
	}
}

func TestBegun(t *testing.T) {
	openers := []string{"( ", "not ", "- ", "pre ", "within 3 ", "f( ", "f(a, ", "f(g(a), (b), ", "if ", "if a then ", "if a then b else ", "a + ( ", "a -> not ", "(a) * ((b) - c) + ( ", "(if a = b then not c else f()) or ( ", "((a)) = - ("}
	for _, o := range openers {
		for _, k := range []int{198, 199, 200, 201} {
			for _, behind := range []string{"", "a", ")", "1", "+", "if", "node", "(", "not a", "f()", "f(", "f(a", "f(a)", ";", "else", "a )", "a node", "within", "within a", "within 1001", "within 1000", "within 1000 a", "((a", "(((("} {
				asSaid(t, strings.Repeat(o, k)+behind)
			}
		}
	}
	r := rand.New(rand.NewSource(10))
	for range 1000 {
		var b strings.Builder
		for range 180 + r.Intn(25) {
			b.WriteString(openers[r.Intn(len(openers))])
		}
		b.WriteString([]string{"", "a", ";", "a )", "f(", "f()"}[r.Intn(6)])
		asSaid(t, b.String())
	}
}

func TestBegunByHand(t *testing.T) {
	deep := strings.Repeat("(", 199)
	up := strings.Repeat(")", 199)
	reads(t, deep+"a"+up, v("a"))
	reads(t, deep+"f()"+up, call("f"))
	fails(t, "("+deep+"a"+up+")", api.ErrDeep, 200)
	fails(t, deep+"f(a)"+up, api.ErrDeep, 201)
	fails(t, deep+"not a"+up, api.ErrDeep, 203)
	fails(t, deep+"f(", api.ErrDeep, -1)
	fails(t, deep, api.ErrSyntax, -1)
	fails(t, deep+"(", api.ErrDeep, -1)
	fails(t, deep+"()", api.ErrDeep, 200)
	fails(t, deep+"(node", api.ErrDeep, 200)
	fails(t, deep+"node", api.ErrSyntax, 199)
	fails(t, strings.Repeat("not ", 200)+"a", api.ErrDeep, 800)
	fails(t, strings.Repeat("not ", 199)+"a", api.ErrDeep, 0)
	fails(t, strings.Repeat("not ", 199)+"a b", api.ErrDeep, 0)
	// A number behind within is no operand, but what stands behind it is one.
	fails(t, deep+"within", api.ErrSyntax, -1)
	fails(t, deep+"within a", api.ErrSyntax, 206)
	fails(t, deep+"within 1001", api.ErrSyntax, 206)
	fails(t, deep+"within 1000", api.ErrDeep, -1)
	fails(t, deep+"within 1000 a", api.ErrDeep, 211)
	// Those that have ended do not count.
	reads(t, wide(511), sum(511))
	reads(t, "("+deep[:190]+wide(511)+up[:190]+")", sum(511))
	reads(t, deep+"a"+up+" and "+deep+"b"+up, op(api.OpAnd, v("a"), v("b")))
}
