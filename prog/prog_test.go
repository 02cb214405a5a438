package prog_test

import (
	"math/rand"
	"slices"
	"strconv"
	"strings"
	"testing"

	"bailment/api"
	"bailment/expr"
	"bailment/lex"
	"bailment/prog"
	"bailment/show"
	"bailment/tree"
)

func e(s string) api.Expr {
	x, f := expr.Read(s)
	if f.Code != api.OK {
		panic(s)
	}
	return x
}

func sameItem(a, b api.Item) bool {
	return a.Kind == b.Kind && a.Name == b.Name && a.Type == b.Type && slices.Equal(a.E, b.E) && slices.Equal(a.F, b.F) &&
		slices.EqualFunc(a.Args, b.Args, func(x, y api.Expr) bool { return slices.Equal(x, y) })
}

func sameEquation(a, b api.Equation) bool { return a.Name == b.Name && slices.Equal(a.E, b.E) }

func sameUnit(a, b api.Unit) bool {
	return a.Contract == b.Contract && a.Name == b.Name && slices.Equal(a.In, b.In) && a.Out == b.Out && slices.Equal(a.Vars, b.Vars) &&
		slices.EqualFunc(a.Eqs, b.Eqs, sameEquation) && slices.EqualFunc(a.Items, b.Items, sameItem)
}

// same tells whether programs are one, whether lists without elements are nil or not.
func same(a, b api.Prog) bool {
	return a.Main == b.Main && a.Back == b.Back && slices.EqualFunc(a.Units, b.Units, sameUnit)
}

// reads tells that a source is read as a program.
func reads(t *testing.T, s string, want api.Prog) {
	t.Helper()
	if p, f := prog.Parse(s); f != (api.Fault{}) || !same(p, want) {
		t.Fatalf("P6.1, P6.2: %.500q: %v, %v; not %v", s, p, f, want)
	}
}

// fails tells that a source has a fault.
func fails(t *testing.T, s string, code api.Errno, at int) {
	t.Helper()
	if p, f := prog.Parse(s); f != (api.Fault{Code: code, At: at}) || !same(p, api.Prog{}) || len(p.Units) != 0 {
		t.Fatalf("P6.1: %.300q .. %q: %v; not %d at %d", s, s[max(0, len(s)-40):], f, code, at)
	}
}

func TestExample(t *testing.T) {
	reads(t, "node f(a: int) returns (b: int) let b = a; tel main f;", api.Prog{
		Units: []api.Unit{{Name: "f", In: []api.Param{{Name: "a", Type: api.Int}}, Out: api.Param{Name: "b", Type: api.Int}, Eqs: []api.Equation{{Name: "b", E: e("a")}}}},
		Main:  "f",
	})
}

func TestByHand(t *testing.T) {
	boolean := func(n string) api.Param { return api.Param{Name: n, Type: api.Bool} }
	number := func(n string) api.Param { return api.Param{Name: n, Type: api.Int} }
	reads(t, "main f;", api.Prog{Main: "f"})
	reads(t, "main f; fallback g;", api.Prog{Main: "f", Back: "g"})
	reads(t, "contract k() end main k; fallback k;", api.Prog{Units: []api.Unit{{Contract: true, Name: "k"}}, Main: "k", Back: "k"})
	reads(t, "contract k(a: bool; b: int; a: int) end main k;", api.Prog{Units: []api.Unit{{Contract: true, Name: "k", In: []api.Param{boolean("a"), number("b"), number("a")}}}, Main: "k"})
	node := func(u api.Unit) api.Prog {
		u.Name, u.Out = "f", boolean("o")
		return api.Prog{Units: []api.Unit{u}, Main: "m"}
	}
	for s, u := range map[string]api.Unit{
		"() returns (o: bool) let tel":                                         {},
		"(o: bool) returns (o: bool) let tel":                                  {In: []api.Param{boolean("o")}},
		"() returns (o: bool) contract end let tel":                            {},
		"() returns (o: bool) var x: int; let tel":                             {Vars: []api.Param{number("x")}},
		"() returns (o: bool) var x: int; y: bool; x: bool; let tel":           {Vars: []api.Param{number("x"), boolean("y"), boolean("x")}},
		"() returns (o: bool) contract end var x: int; let x = 1; x = 2; tel":  {Vars: []api.Param{number("x")}, Eqs: []api.Equation{{Name: "x", E: e("1")}, {Name: "x", E: e("2")}}},
		"() returns (o: bool) contract assume o; end let o = true -> a; tel":   {Items: []api.Item{{Kind: api.Assume, E: e("o")}}, Eqs: []api.Equation{{Name: "o", E: e("true -> a")}}},
		"() returns (o: bool) contract guarantee a = b; end let tel":           {Items: []api.Item{{Kind: api.Guarantee, E: e("a = b")}}},
		"() returns (o: bool) contract ghost g: bool = once b; end let tel":    {Items: []api.Item{{Kind: api.Ghost, Name: "g", Type: api.Bool, E: e("once b")}}},
		"() returns (o: bool) contract ghost g: int = pre g; end let tel":      {Items: []api.Item{{Kind: api.Ghost, Name: "g", Type: api.Int, E: e("pre g")}}},
		"() returns (o: bool) contract mode m require a ensure b; end let tel": {Items: []api.Item{{Kind: api.Mode, Name: "m", E: e("a"), F: e("b")}}},
		"() returns (o: bool) contract import k(); end let tel":                {Items: []api.Item{{Kind: api.Import, Name: "k"}}},
		"() returns (o: bool) contract import k(a, f(b, c), (d)); end let tel": {Items: []api.Item{{Kind: api.Import, Name: "k", Args: []api.Expr{e("a"), e("f(b, c)"), e("d")}}}},
		"() returns (o: bool) let o = a = b; o = if a then b else c; tel":      {Eqs: []api.Equation{{Name: "o", E: e("a = b")}, {Name: "o", E: e("if a then b else c")}}},
	} {
		reads(t, "node f"+s+" main m;", node(u))
	}
	two := "node f() returns (o: bool) let tel contract k() assume a; end node g() returns (p: int) let p = 1; tel main g;"
	reads(t, two, api.Prog{Units: []api.Unit{{Name: "f", Out: boolean("o")}, {Contract: true, Name: "k", Items: []api.Item{{Kind: api.Assume, E: e("a")}}}, {Name: "g", Out: number("p"), Eqs: []api.Equation{{Name: "p", E: e("1")}}}}, Main: "g"})
}

func TestSyntax(t *testing.T) {
	for s, at := range map[string]int{
		"": -1, "main": -1, "main f": -1, "f": 0, "main main;": 5, "main 7;": 5, "main f,": 6, "main f; main f;": 8, "main f; fallback": -1, "main f; fallback f": -1, "main f; fallback f; ;": 20, "main f; node": 8, "fallback f;": 0, ";": 0, "tel main f;": 0, "main f; fallback f; fallback f;": 20,
		"node": -1, "node (": 5, "node f": -1, "node f main": 7, "node f(a) returns": 8, "node f(a: f)": 10, "node f(a: int,": 13, "node f(; a: int)": 7, "node f(a: int; )": 15, "node f() (b: int)": 9, "node f() returns b: int": 17, "node f() returns ()": 18, "node f() returns (b: int; c: int)": 24, "node f() returns (b)": 19,
		"node f() returns (b: int) tel": 26, "node f() returns (b: int) contract k() end": 35, "node f() returns (b: int) contract end contract": 39, "node f() returns (b: int) var x: int; contract end": 38, "node f() returns (b: int) contract let": 35, "node f() returns (b: int) var x: int let": 37, "node f() returns (b: int) var x: int; var": 38, "node f() returns (b: int) var let": 30, "node f() returns (b: int) var x: int; ; let": 38, "node f() returns (b: int) contract end end": 39,
		"node f() returns (b: int) let b: int": 31, "node f() returns (b: int) let b = 1 tel": 36, "node f() returns (b: int) let b = 1; ; tel": 37, "node f() returns (b: int) let b = 1, tel": 35, "node f() returns (b: int) let 1 = b;": 30, "node f() returns (b: int) let b = a = c = d;": 40, "node f() returns (b: int) let tel ;": 34, "node f() returns (b: int) let": -1, "node f() returns (b: int) let b": -1, "node f() returns (b: int) let b =": -1, "node f() returns (b: int) let b = 1": -1,
		"contract k end": 11, "contract k() main": 13, "contract k() returns": 13, "contract k() end let": 17, "contract k() let tel": 13, "contract k() var x: int; end": 13, "contract k() assume;": 19, "contract k() assume a, b;": 21, "contract k() assume a assume": 22, "contract k() guarantee a end": 25, "contract k() a = b;": 13,
		"contract k() ghost g = a;": 21, "contract k() ghost g: real = a;": 22, "contract k() ghost g: int a;": 26, "contract k() ghost g: int = ;": 28, "contract k() ghost g: int;": 25, "contract k() ghost: int": 18,
		"contract k() mode require a ensure b;": 18, "contract k() mode m ensure b;": 20, "contract k() mode m require a;": 29, "contract k() mode m require a ensure;": 36, "contract k() mode m require ensure b;": 28, "contract k() mode m require a ensure b end": 39, "contract k() mode m require a b ensure c;": 30,
		"contract k() import j;": 21, "contract k() import j(": -1, "contract k() import j(,": 22, "contract k() import j(a,)": 24, "contract k() import j(a;": 23, "contract k() import j(a b)": 24, "contract k() import j() end": 24, "contract k() import j(a": -1, "contract k() import (a)": 20, "contract k() import j(a) (b)": 25,
	} {
		fails(t, s, api.ErrSyntax, at)
	}
	// What lex tells is ahead of all others.
	fails(t, ") 00", api.ErrOver, 2)
	fails(t, "main f; #", api.ErrSyntax, 8)
	fails(t, "node node A", api.ErrSyntax, 10)
	fails(t, strings.Repeat(" ", 100001), api.ErrMany, -1)
	fails(t, strings.Repeat("contract k() end ", 300)+"2147483648", api.ErrOver, 300*17)
}

// hosts are sources in which an expression can stand.
var hosts = map[string]string{
	"node f() returns (b: int) let b = ":                " ; tel main f;",
	"node f() returns (b: int) let b = 1; a = ":         " ; tel main f;",
	"contract k() assume ":                              " ; end main f;",
	"contract k() guarantee ":                           " ; end main f;",
	"contract k() ghost g: bool = ":                     " ; end main f;",
	"contract k() mode m require ":                      " ensure a; end main f;",
	"contract k() mode m require a ensure ":             " ; end main f;",
	"contract k() import j( ":                           " ) ; end main f;",
	"contract k() import j(a, ":                         " ) ; end main f;",
	"contract k() import j( \n":                         " , b ) ; end main f;",
	"node f() returns (b: int) contract assume ":        " ; end let tel main f;",
	"node f() returns (b: int) contract import j(a, b,": " ) ; end let tel main f;",
}

func wide(k int) string {
	if k == 1 {
		return "w"
	}
	left := k / 2
	if left%2 == 0 {
		left--
	}
	return "(" + wide(left) + ")+(" + wide(k-1-left) + ")"
}

func TestFaultsOfExpressions(t *testing.T) {
	chain := strings.Repeat("a-", 40) + "a"
	for begin, end := range hosts {
		if _, f := prog.Parse(begin + "a" + end); f != (api.Fault{}) {
			t.Fatalf("P6.1: %q: %v", begin, f)
		}
		at := len(begin)
		for s, want := range map[string]api.Fault{
			wide(5001):                          {Code: api.ErrMany, At: at},
			" - - (" + wide(4999) + ")":         {Code: api.ErrMany, At: at + 1},
			chain:                               {Code: api.ErrDeep, At: at},
			strings.Repeat("pre ", 40) + "a":    {Code: api.ErrDeep, At: at},
			strings.Repeat("(", 200) + "a":      {Code: api.ErrDeep, At: at + 200},
			strings.Repeat("not ", 200) + "a":   {Code: api.ErrDeep, At: at + 800},
			"a and ":                            {Code: api.ErrSyntax, At: at + 6 + strings.IndexAny(end, ";e),")},
			"within 1001 a":                     {Code: api.ErrSyntax, At: at + 7},
			"a = b < c":                         {Code: api.ErrSyntax, At: at + 6},
			"a b":                               {Code: api.ErrSyntax, At: at + 2},
			"f(a; b)":                           {Code: api.ErrSyntax, At: at + 3},
			chain + " b":                        {Code: api.ErrDeep, At: at}, // it is told behind the expression, ahead of what stands there
			"if a then " + chain + " else else": {Code: api.ErrSyntax, At: at + 10 + len(chain) + 6},
			"00":                                {Code: api.ErrOver, At: at},
			strings.Repeat("(", 201) + " 2147483648 " + "a": {Code: api.ErrOver, At: at + 202},
		} {
			fails(t, begin+s+end, want.Code, want.At)
		}
		fails(t, begin, api.ErrSyntax, -1)
		fails(t, begin+"a +", api.ErrSyntax, -1)
		fails(t, begin+strings.Repeat("(", 200), api.ErrDeep, -1)
	}
	// Of two faults the one is told that is read first.
	fails(t, "contract k() assume "+chain+"; main", api.ErrDeep, 20)
	fails(t, "contract k() assume a; main; assume "+chain+";", api.ErrSyntax, 23)
	fails(t, "contract k() assume "+chain+"; assume "+wide(5001)+";", api.ErrDeep, 20)
	fails(t, "contract k() assume "+strings.Repeat("true; assume ", 200)+chain+";", api.ErrMany, 20+13*200-7)
}

// TestLong holds each list that ends by what begins no other thing.
func TestLong(t *testing.T) {
	node := "node f() returns (b: int) "
	for _, c := range []struct {
		begin, one, first, end string
	}{
		{"", "contract k() end ", "contract", "main f;"},
		{"", node + "let tel ", "node", "main f;"},
		{node + "var ", "a: int; ", "a", "let tel main f;"},
		{node + "let ", "b = 1 + 2; ", "b", "tel main f;"},
		{node + "contract ", "assume true; ", "assume", "end let tel main f;"},
		{"contract k() ", "guarantee a; ", "guarantee", "end main f;"},
		{"contract k() ", "ghost g: bool = a; ", "ghost", "end main f;"},
		{"contract k() ", "mode m require a ensure b; ", "mode", "end main f;"},
		{node + "contract ", "import k(a, b); ", "import", "end let tel main f;"},
	} {
		most := c.begin + strings.Repeat(c.one, 200)
		for _, n := range []int{0, 1, 199, 200} {
			if n == 0 && strings.HasSuffix(c.begin, "var ") {
				continue
			}
			p, f := prog.Parse(c.begin + strings.Repeat(c.one, n) + c.end)
			if f != (api.Fault{}) {
				t.Fatalf("P6.1: %d of %q: %v", n, c.one, f)
			}
			count := len(p.Units)
			if c.begin != "" {
				count = len(p.Units[0].Vars) + len(p.Units[0].Eqs) + len(p.Units[0].Items)
			}
			if count != n {
				t.Fatalf("P6.1: %d of %q, not %d", count, c.one, n)
			}
		}
		// The 201st one is told where it begins, whatever it is, and whatever stands behind it.
		for _, s := range []string{c.one + c.end, strings.Repeat(c.one, 9) + c.end, c.one, c.first, c.first + " ) (", c.first + " 7", c.first + " " + strings.Repeat("(", 300)} {
			fails(t, most+s, api.ErrMany, len(most))
		}
		// What begins none is what it is everywhere.
		fails(t, most, api.ErrSyntax, -1)
		for _, s := range []string{") " + c.end, "7", "; " + c.one, "returns"} {
			fails(t, most+s, api.ErrSyntax, len(most))
		}
	}
	fails(t, strings.Repeat("contract k() end ", 200)+"node f() returns (a: int) let tel main f;", api.ErrMany, 3400)
	fails(t, strings.Repeat("contract k() end ", 200)+"let", api.ErrSyntax, 3400)
	fails(t, node+"let "+strings.Repeat("b = a; ", 200)+"c", api.ErrMany, len(node)+4+1400)
	fails(t, "contract k() "+strings.Repeat("assume a; ", 200)+"mode m", api.ErrMany, 13+2000)
	// Each list is counted by itself.
	long := node + "contract " + strings.Repeat("assume a; ", 200) + "end var " + strings.Repeat("x: int; ", 200) + "let " + strings.Repeat("x = 1; ", 200) + "tel "
	if p, f := prog.Parse(strings.Repeat(long, 12) + "main f;"); f != (api.Fault{}) || len(p.Units) != 12 || len(p.Units[11].Eqs) != 200 {
		t.Fatalf("P6.1: %v", f)
	}
}

// TestLongInSigns holds the lists that stand in round signs.
func TestLongInSigns(t *testing.T) {
	for _, c := range []struct {
		begin, one, between, end string
	}{
		{"node f(", "a: int", ";", ") returns (b: int) let tel main f;"},
		{"contract k(", "a: bool", ";", ") end main f;"},
		{"contract k() import j(", "a", ",", "); end main f;"},
		{"node f() returns (b: int) contract import j(", "g(a, b) + 1", ",", "); end let tel main f;"},
	} {
		list := func(n int) string { return c.begin + strings.TrimSuffix(strings.Repeat(c.one+c.between, n), c.between) }
		for _, n := range []int{0, 1, 2, 199, 200} {
			p, f := prog.Parse(list(n) + c.end)
			if f != (api.Fault{}) {
				t.Fatalf("P6.1: %d of %q: %v", n, c.one, f)
			}
			count := len(p.Units[0].In)
			for _, i := range p.Units[0].Items {
				count += len(i.Args)
			}
			if count != n {
				t.Fatalf("P6.1: %d of %q, not %d", count, c.one, n)
			}
		}
		// Whatever stands behind the 200th one's sign is where ErrMany is told.
		most := list(200) + c.between
		for _, s := range []string{c.one + c.end, c.end, "7", "(", strings.Repeat("(", 300), "then", c.between, "main f;", "within 1001 a", strings.Repeat("a-", 50) + "a"} {
			fails(t, most+s, api.ErrMany, len(most))
			fails(t, most+"\n\t"+s, api.ErrMany, len(most)+2)
		}
		fails(t, most, api.ErrMany, -1)
		fails(t, most+" -- "+c.one, api.ErrMany, -1)
		fails(t, most+"#", api.ErrSyntax, len(most))
		// Ahead of that sign all is as it is everywhere.
		fails(t, list(200), api.ErrSyntax, -1)
		fails(t, list(200)+" "+c.one, api.ErrSyntax, len(list(200))+1)
		fails(t, list(199)+c.between, api.ErrSyntax, -1)
		fails(t, list(199)+c.between+")", api.ErrSyntax, len(list(199))+1)
		fails(t, list(199)+c.between+"then"+c.between, api.ErrSyntax, len(list(199))+1)
	}
}

// writer writes a program's tokens by the chapter's grammar.
type writer struct{ l []string }

func (w *writer) put(l ...string) { w.l = append(w.l, l...) }

func (w *writer) param(p api.Param) {
	w.put(p.Name, ":", map[int]string{api.Bool: "bool", api.Int: "int"}[p.Type])
}

func (w *writer) expr(x api.Expr) { w.put(strings.Fields(show.Show(x))...) }

func (w *writer) unit(u api.Unit) {
	w.put(map[bool]string{true: "contract", false: "node"}[u.Contract], u.Name, "(")
	for i, p := range u.In {
		if i > 0 {
			w.put(";")
		}
		w.param(p)
	}
	w.put(")")
	if !u.Contract {
		w.put("returns", "(")
		w.param(u.Out)
		w.put(")")
		if len(u.Items) > 0 {
			w.put("contract")
		}
	}
	for _, i := range u.Items {
		w.item(i)
	}
	if u.Contract || len(u.Items) > 0 {
		w.put("end")
	}
	if len(u.Vars) > 0 {
		w.put("var")
	}
	for _, p := range u.Vars {
		w.param(p)
		w.put(";")
	}
	if u.Contract {
		return
	}
	w.put("let")
	for _, q := range u.Eqs {
		w.put(q.Name, "=")
		w.expr(q.E)
		w.put(";")
	}
	w.put("tel")
}

func (w *writer) item(i api.Item) {
	w.put([]string{"", "assume", "guarantee", "ghost", "mode", "import"}[i.Kind])
	switch i.Kind {
	case api.Ghost:
		w.param(api.Param{Name: i.Name, Type: i.Type})
		w.put("=")
	case api.Mode:
		w.put(i.Name, "require")
		w.expr(i.E)
		w.put("ensure")
		i.E = i.F
	case api.Import:
		w.put(i.Name, "(")
		for k, a := range i.Args {
			if k > 0 {
				w.put(",")
			}
			w.expr(a)
		}
		w.put(")")
	}
	if i.Kind != api.Import {
		w.expr(i.E)
	}
	w.put(";")
}

func written(p api.Prog) []string {
	w := &writer{}
	for _, u := range p.Units {
		w.unit(u)
	}
	w.put("main", p.Main, ";")
	if p.Back != "" {
		w.put("fallback", p.Back, ";")
	}
	return w.l
}

// maker makes programs of any shape.
type maker struct{ *rand.Rand }

func (m maker) name() string {
	return []string{"a", "b", "f", "_", "x1", "nodes", strings.Repeat("z", 40)}[m.Intn(7)]
}

func (m maker) param() api.Param { return api.Param{Name: m.name(), Type: api.Bool + m.Intn(2)} }

func (m maker) expr() api.Expr {
	x := e([]string{"a", "7", "true", "f()", "f(a, b -> c)", "if a then b else c", "a = b", "a since b", "within 3 not a", "- - a", "a -> pre b + 1", "(a -> b) -> c", "a => b => c"}[m.Intn(13)])
	if m.Intn(3) == 0 {
		x = tree.Join([]int{api.OpArrow, api.OpEq, api.OpSub, api.OpAnd}[m.Intn(4)], 0, "", x, m.expr())
	}
	return x
}

func some[T any](m maker, one func() T) []T {
	var l []T
	for range m.Intn(4) {
		l = append(l, one())
	}
	return l
}

func (m maker) item() api.Item {
	i := api.Item{Kind: api.Assume + m.Intn(5)}
	switch i.Kind {
	case api.Import:
		i.Name, i.Args = m.name(), some(m, m.expr)
		return i
	case api.Ghost:
		i.Name, i.Type = m.name(), api.Bool+m.Intn(2)
	case api.Mode:
		i.Name, i.F = m.name(), m.expr()
	}
	i.E = m.expr()
	return i
}

func (m maker) unit() api.Unit {
	u := api.Unit{Contract: m.Intn(3) == 0, Name: m.name(), In: some(m, m.param), Items: some(m, m.item)}
	if !u.Contract {
		u.Out, u.Vars = m.param(), some(m, m.param)
		u.Eqs = some(m, func() api.Equation { return api.Equation{Name: m.name(), E: m.expr()} })
	}
	return u
}

func (m maker) prog() api.Prog {
	p := api.Prog{Units: some(m, m.unit), Main: m.name()}
	if m.Intn(2) == 0 {
		p.Back = m.name()
	}
	return p
}

// spaced puts tokens together, as near to each other as they may be, or further away.
func (m maker) spaced(l []string) string {
	var b strings.Builder
	for i, w := range l {
		if i > 0 {
			near, _ := lex.Lex(l[i-1] + w)
			apart := []string{" ", "\n", "\t ", "\r\n", " -- main f; 00 #\n", "--\n"}[m.Intn(6)]
			if apart[0] == '-' && strings.HasSuffix(l[i-1], "-") { // that sign would begin the remark
				apart = " " + apart
			}
			if len(near) != 2 || near[0].Text != l[i-1] || m.Intn(2) == 0 {
				b.WriteString(apart)
			}
		}
		b.WriteString(w)
	}
	return b.String()
}

func TestWrittenIsRead(t *testing.T) {
	m := maker{rand.New(rand.NewSource(14))}
	steps := table()
	for range 1500 {
		want := m.prog()
		l := written(want)
		reads(t, strings.Join(l, " "), want)
		reads(t, m.spaced(l), want)
		// Cut short, or with one token left out, put in, or another one, it is what the model says.
		i := m.Intn(len(l))
		other := strings.Fields(words)[m.Intn(len(strings.Fields(words)))]
		for _, x := range [][]string{l[:i], slices.Concat(l[:i], l[i+1:]), slices.Concat(l[:i], []string{other}, l[i:]), slices.Concat(l[:i], []string{other}, l[i+1:]), slices.Concat(l, []string{other})} {
			asSaid(t, steps, strings.Join(x, " "))
		}
	}
}

func TestEmptyFields(t *testing.T) {
	p, _ := prog.Parse("contract k(a: int) assume a; guarantee b; ghost g: int = c; mode m require a ensure b; import k(a); end node f() returns (o: int) let tel main f;")
	if len(p.Units) != 2 {
		t.Fatalf("P6.1: %v", p)
	}
	k, f := p.Units[0], p.Units[1]
	if !k.Contract || k.Out != (api.Param{}) || len(k.Vars)+len(k.Eqs) != 0 || f.Contract || len(f.In)+len(f.Vars)+len(f.Eqs)+len(f.Items) != 0 || p.Back != "" {
		t.Errorf("P6.2: %v", p)
	}
	for i, want := range []struct{ name, kind, e, f, args int }{{0, api.Assume, 1, 0, 0}, {0, api.Guarantee, 1, 0, 0}, {1, api.Ghost, 1, 0, 0}, {1, api.Mode, 1, 1, 0}, {1, api.Import, 0, 0, 1}} {
		n := k.Items[i]
		if n.Kind != want.kind || len(n.Name) != want.name || (n.Type == api.Int) != (n.Kind == api.Ghost) || n.Type != 0 && n.Kind != api.Ghost || len(n.E) != want.e || len(n.F) != want.f || len(n.Args) != want.args {
			t.Errorf("P6.2: %v", n)
		}
	}
}

func TestAnswerIsNew(t *testing.T) {
	s := "contract k(a: int; b: int) assume a + b; mode m require a ensure b; import k(a, b); end node f(a: int) returns (b: int) var c: int; d: int; let b = a; c = a; tel main f;"
	p, _ := prog.Parse(s)
	want, _ := prog.Parse(s)
	var lists []api.Expr
	for i := range p.Units {
		u := &p.Units[i]
		for k := range u.Eqs {
			lists = append(lists, u.Eqs[k].E)
		}
		for k := range u.Items {
			lists = append(append(lists, u.Items[k].E, u.Items[k].F), u.Items[k].Args...)
		}
		clear(u.In[:cap(u.In)])
		clear(u.Vars[:cap(u.Vars)])
	}
	for _, l := range lists {
		clear(l[:cap(l)])
	}
	clear(p.Units[1].Eqs[:cap(p.Units[1].Eqs)])
	clear(p.Units[:cap(p.Units)])
	if again, f := prog.Parse(s); f != (api.Fault{}) || !same(again, want) {
		t.Errorf("R5, R6: %v, %v", again, f)
	}
}

func TestAnythingEnds(t *testing.T) {
	r := rand.New(rand.NewSource(15))
	all := strings.Fields(words)
	for range 3000 {
		var b strings.Builder
		for range r.Intn(40) {
			if r.Intn(9) == 0 {
				b.WriteByte(byte(r.Intn(256)))
			}
			b.WriteString(all[r.Intn(len(all))] + " ")
		}
		p, f := prog.Parse(b.String())
		if again, g := prog.Parse(b.String()); f != g || !same(p, again) || f.Code != api.OK && !same(p, api.Prog{}) {
			t.Fatalf("R3, R6: %q: %v, %v", b.String(), f, g)
		}
	}
	// As many tokens as a source may have.
	for _, s := range []string{"(", "a", "contract k() end ", "node ", "main f;", "-", "a:int;", "a=1;", "assume a;", "import k("} {
		for _, begin := range []string{"", "contract k(", "contract k() ", "contract k() assume ", "contract k() import k(", "node f() returns (a: int) let ", "node f() returns (a: int) let a = ", "node f() returns (a: int) var "} {
			long := begin + strings.Repeat(s, (100000-len(begin))/len(s))
			if p, f := prog.Parse(long); f.Code == api.OK || !same(p, api.Prog{}) {
				t.Errorf("P6.1: %q and many %q: %v", begin, s, f)
			}
		}
	}
	units := ""
	for i := 0; len(units) < 99000; i++ {
		units += "node n" + strconv.Itoa(i) + "() returns (a: int) let " + strings.Repeat("a=1;", 150) + "tel "
	}
	if p, f := prog.Parse(units + "main f;"); f != (api.Fault{}) || len(p.Units) < 100 {
		t.Errorf("P6.1: %v", f)
	}
}
