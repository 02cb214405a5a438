package expr_test

import (
	"math"
	"math/rand"
	"slices"
	"strconv"
	"strings"
	"testing"

	"bailment/api"
	"bailment/expr"
	"bailment/lex"
	"bailment/tree"
)

func v(name string) api.Expr { return tree.Join(api.OpVar, 0, name) }

func n(k int) api.Expr { return tree.Join(api.OpNum, k, "") }

func op(o int, parts ...api.Expr) api.Expr { return tree.Join(o, 0, "", parts...) }

func call(name string, parts ...api.Expr) api.Expr {
	return tree.Join(api.OpCall, 0, name, parts...)
}

// binary is one that stands between two operands.
type binary struct {
	text  string
	level int
	op    int
	turn  bool
}

var binaries = []binary{
	{"->", 1, api.OpArrow, false}, {"=>", 2, api.OpImp, false}, {"since", 3, api.OpSince, false},
	{"or", 4, api.OpOr, false}, {"xor", 4, api.OpXor, false}, {"and", 5, api.OpAnd, false},
	{"=", 6, api.OpEq, false}, {"<>", 6, api.OpNe, false}, {"<", 6, api.OpLt, false}, {"<=", 6, api.OpLe, false}, {">", 6, api.OpLt, true}, {">=", 6, api.OpLe, true},
	{"+", 7, api.OpAdd, false}, {"-", 7, api.OpSub, false}, {"*", 8, api.OpMul, false}, {"div", 8, api.OpDiv, false}, {"mod", 8, api.OpMod, false},
}

func (b binary) of(x, y api.Expr) api.Expr {
	if b.turn {
		return op(b.op, y, x)
	}
	return op(b.op, x, y)
}

type prefix struct {
	text string
	op   int
}

var prefixes = []prefix{{"not", api.OpNot}, {"-", api.OpNeg}, {"pre", api.OpPre}, {"once", api.OpOnce}, {"hist", api.OpHist}, {"prev", api.OpPrev}, {"within", api.OpWithin}}

func find[T any](l []T, is func(T) bool) (T, bool) {
	var zero T
	if i := slices.IndexFunc(l, is); i >= 0 {
		return l[i], true
	}
	return zero, false
}

// reads tells that a source is read as an expression.
func reads(t *testing.T, s string, want api.Expr) {
	t.Helper()
	if e, f := expr.Read(s); !slices.Equal(e, want) || f != (api.Fault{}) || !tree.May(e) {
		t.Errorf("P4.2: %.200q: %v, %v; not %v", s, e, f, want)
	}
}

// fails tells that a source has a fault.
func fails(t *testing.T, s string, code api.Errno, at int) {
	t.Helper()
	if e, f := expr.Read(s); len(e) != 0 || f != (api.Fault{Code: code, At: at}) {
		t.Errorf("P4.2, P4.3: %.200q: %d nodes, %v; not %d at %d", s, len(e), f, code, at)
	}
}

func TestExample(t *testing.T) {
	reads(t, "a -> b => c", op(api.OpArrow, v("a"), op(api.OpImp, v("b"), v("c"))))
}

func TestOperands(t *testing.T) {
	a, b, c := v("a"), v("b"), v("c")
	for s, want := range map[string]api.Expr{
		"0": n(0), "2147483647": n(math.MaxInt32), "true": tree.Join(api.OpBool, 1, ""), "false": tree.Join(api.OpBool, 0, ""), "_": v("_"), "truer": v("truer"),
		"(((a)))": a, "f()": call("f"), "f ( a )": call("f", a), "f(a,b,c)": call("f", a, b, c), "f((a))": call("f", a), "f(f(),g(a -> b))": call("f", call("f"), call("g", op(api.OpArrow, a, b))), "f(a)+f": op(api.OpAdd, call("f", a), v("f")),
		"if a then b else c": op(api.OpIf, a, b, c), "if a -> b then b => c else c -> a": op(api.OpIf, op(api.OpArrow, a, b), op(api.OpImp, b, c), op(api.OpArrow, c, a)),
		"if a then if b then c else a else b": op(api.OpIf, a, op(api.OpIf, b, c, a), b), "if a then b else if c then a else b": op(api.OpIf, a, b, op(api.OpIf, c, a, b)),
		"(if a then b else c) -> a": op(api.OpArrow, op(api.OpIf, a, b, c), a), "not if a then b else c = a": op(api.OpNot, op(api.OpIf, a, b, op(api.OpEq, c, a))),
		// Behind else stands a whole expression; what cannot go on with that goes on with the If.
		"if a then b else b = c = a": op(api.OpEq, op(api.OpIf, a, b, op(api.OpEq, b, c)), a),
		"within 0 a":                 tree.Join(api.OpWithin, 0, "", a), "within 1000 not a": tree.Join(api.OpWithin, 1000, "", op(api.OpNot, a)), "within 2 b or c": op(api.OpOr, tree.Join(api.OpWithin, 2, "", b), c), "within 3 4": tree.Join(api.OpWithin, 3, "", n(4)),
		"-1": op(api.OpNeg, n(1)), "a - -b": op(api.OpSub, a, op(api.OpNeg, b)), "- a * b": op(api.OpMul, op(api.OpNeg, a), b), "a * - b": op(api.OpMul, a, op(api.OpNeg, b)), "-f(a)": op(api.OpNeg, call("f", a)), "- (a + b)": op(api.OpNeg, op(api.OpAdd, a, b)),
		"not a = b": op(api.OpEq, op(api.OpNot, a), b), "pre a -> b": op(api.OpArrow, op(api.OpPre, a), b), "once hist prev pre a": op(api.OpOnce, op(api.OpHist, op(api.OpPrev, op(api.OpPre, a)))),
		"a -- b\n+ c": op(api.OpAdd, a, c), "\ta\r\n": a,
	} {
		reads(t, s, want)
	}
}

func TestLevels(t *testing.T) {
	a, b, c := v("a"), v("b"), v("c")
	for _, x := range binaries {
		reads(t, "a "+x.text+" b", x.of(a, b))
		for _, y := range binaries {
			s := "a " + x.text + " b " + y.text + " c"
			switch {
			case x.level == 6 && y.level == 6:
				fails(t, s, api.ErrSyntax, strings.LastIndex(s, y.text))
			case x.level > y.level || x.level == y.level && x.level > 2:
				reads(t, s, y.of(x.of(a, b), c))
			default:
				reads(t, s, x.of(a, y.of(b, c)))
			}
			reads(t, "(a "+x.text+" b) "+y.text+" c", y.of(x.of(a, b), c))
			reads(t, "a "+x.text+" (b "+y.text+" c)", x.of(a, y.of(b, c)))
		}
		for _, p := range prefixes {
			text, num := p.text, 0
			if p.op == api.OpWithin {
				text, num = "within 9", 9
			}
			pre := func(e api.Expr) api.Expr { return tree.Join(p.op, num, "", e) }
			reads(t, text+" a "+x.text+" b", x.of(pre(a), b))
			reads(t, "a "+x.text+" "+text+" b", x.of(a, pre(b)))
			reads(t, text+" (a "+x.text+" b)", pre(x.of(a, b)))
			reads(t, text+" "+text+" a", pre(pre(a)))
		}
	}
}

func TestSyntax(t *testing.T) {
	for s, at := range map[string]int{
		"": -1, " -- a": -1, ")": 0, "a )": 2, "a b": 2, "a 1": 2, "1 a": 2, "a true": 2, "a not b": 2, "1 (b)": 2, "(a) (b)": 4, "f() ()": 4, "()": 1, "( )": 2, "(a": -1, "(a,b)": 2, "f(": -1, "f(a": -1, "f(a,": -1, "f(,a)": 2, "f(a,,b)": 4, "f(a,)": 4, "f(a;b)": 3, "f)": 1, "f(a))": 4,
		"+": 0, "* a": 0, "+ a": 0, "a +": -1, "a + ;": 4, "a + * b": 4, "a + then": 4, "a ->": -1, "a -> )": 5, "a => = b": 5, "a < b < c": 6, "(a < b < c)": 7, "a = b and c = d = e": 16, "a <> b or": -1, "not": -1, "not )": 4, "- )": 2, "pre pre": -1,
		"if": -1, "if then": 3, "if a": -1, "if a b": 5, "if a else b": 5, "if a then": -1, "if a then else": 10, "if a then b": -1, "if a then b c": 12, "if a then b then c": 12, "if a then b else": -1, "if a then b else else": 17, "then": 0, "else a": 0,
		"within": -1, "within a": 7, "within a b": 7, "within -1 a": 7, "within (1) a": 7, "within 1001 a": 7, "within 2147483647 a": 7, "within 1001": 7, "within 1000": -1, "within 1000 )": 12, "within 5 + a": 9, "within true a": 7,
		"node": 0, "a node": 2, "let a": 0, "int": 0, "mode": 0, "main": 0, ";": 0, ":": 0, "a : int": 2, ",": 0, "a, b": 1, "a := b": 2, "since a": 0, "a since": -1, "or": 0, "a and and b": 6, "div 2": 0, "mod": 0,
	} {
		fails(t, s, api.ErrSyntax, at)
	}
	// Faults of the tokens are ahead of all others.
	fails(t, ") 00", api.ErrOver, 2)
	fails(t, "a + + #", api.ErrSyntax, 6)
	fails(t, strings.Repeat(" ", 100001), api.ErrMany, -1)
	fails(t, strings.Repeat("(", 300)+"A", api.ErrSyntax, 300)
}

func TestLongest(t *testing.T) {
	for s, c := range map[string]struct {
		want api.Expr
		next int
	}{
		"a ; b": {v("a"), 1}, "a = b = c": {op(api.OpEq, v("a"), v("b")), 3}, "a )": {v("a"), 1}, "a , b": {v("a"), 1}, "(a) b": {v("a"), 3}, "f ( a ) (": {call("f", v("a")), 4}, "f ( ) 1": {call("f"), 3}, "1 ( a )": {n(1), 1}, "a ensure b": {v("a"), 1}, "if a then b else c else": {op(api.OpIf, v("a"), v("b"), v("c")), 6}, "within 3 a a": {tree.Join(api.OpWithin, 3, "", v("a")), 3}, "a": {v("a"), 1},
	} {
		l, _ := lex.Lex(s)
		ahead, _ := lex.Lex("( not ;")
		if e, next, f := expr.Parse(l, 0); !slices.Equal(e, c.want) || next != c.next || f != (api.Fault{}) {
			t.Errorf("P4.2: %q: %v, %d, %v", s, e, next, f)
		}
		if e, next, f := expr.Parse(slices.Concat(ahead, l), 3); !slices.Equal(e, c.want) || next != 3+c.next || f != (api.Fault{}) {
			t.Errorf("P4.2: %q behind others: %v, %d, %v", s, e, next, f)
		}
	}
}

func TestAt(t *testing.T) {
	l := []api.Token{{Kind: api.TokName, Text: "a", At: 3}, {Kind: 99, At: -7}, {At: math.MaxInt}}
	for i, want := range map[int]int{0: 3, 1: -7, 2: math.MaxInt, 3: -1, -1: -1, math.MinInt: -1, math.MaxInt: -1} {
		if at := expr.At(l, i); at != want {
			t.Errorf("P4.1: %d: %d", i, at)
		}
		if expr.At(nil, i) != -1 {
			t.Errorf("P4.1: %d of nothing", i)
		}
	}
	for _, from := range []int{3, 4, -1, math.MinInt, math.MaxInt} {
		if e, next, f := expr.Parse(l, from); len(e) != 0 || next != 0 || f != (api.Fault{Code: api.ErrSyntax, At: -1}) {
			t.Errorf("P4.2: from %d: %v, %d, %v", from, e, next, f)
		}
	}
}

func TestKindsOfTokens(t *testing.T) {
	turned, _ := lex.Lex("if not (a -> f(b, true)) then false else within 3 - c and pre g()")
	want, next, f := expr.Parse(turned, 0)
	if next != len(turned) || f != (api.Fault{}) {
		t.Fatalf("P4.2: %d, %v", next, f)
	}
	for i := range turned {
		switch turned[i].Kind {
		case api.TokWord:
			turned[i].Kind = api.TokSign
		case api.TokSign:
			turned[i].Kind = api.TokWord
		}
	}
	if e, next, f := expr.Parse(turned, 0); !slices.Equal(e, want) || next != len(turned) || f != (api.Fault{}) {
		t.Errorf("P4.2: %v, %d, %v", e, next, f)
	}
	// No token of another kind goes on with anything.
	for i := range turned {
		for _, kind := range []int{0, 5, -1, math.MaxInt} {
			l := slices.Clone(turned)
			l[i].Kind = kind
			if e, next, f := expr.Parse(l, 0); i > 0 && i < 5 && f != (api.Fault{Code: api.ErrSyntax, At: l[i].At}) || f.Code == api.OK && next != i || f.Code != api.OK && (next != 0 || len(e) != 0) {
				t.Errorf("P4.2: token %d of kind %d: %v, %d, %v", i, kind, e, next, f)
			}
		}
	}
	for _, k := range []api.Token{{Kind: api.TokWord, Text: "a"}, {Kind: api.TokSign, Text: "7"}, {Kind: api.TokSign}, {Kind: api.TokName}, {Kind: api.TokNum}, {Kind: api.TokNum, Text: "a"}, {Kind: api.TokNum, Text: "-1"}, {Kind: api.TokNum, Text: "2147483648"}, {Kind: api.TokNum, Text: strings.Repeat("9", 99)}, {Kind: api.TokNum, Text: "true"}, {Kind: api.TokNum, Text: "("}} {
		k.At = 8
		if e, next, f := expr.Parse([]api.Token{k}, 0); len(e) != 0 || next != 0 || f != (api.Fault{Code: api.ErrSyntax, At: 8}) {
			t.Errorf("P4.2: %v: %v, %d, %v", k, e, next, f)
		}
	}
	// A name is none of the words, whatever its text is.
	if e, next, f := expr.Parse([]api.Token{{Kind: api.TokName, Text: "not"}, {Kind: api.TokName, Text: "->"}}, 0); !slices.Equal(e, v("not")) || next != 1 || f != (api.Fault{}) {
		t.Errorf("P4.2: %v, %d, %v", e, next, f)
	}
}

// wide is the text of a sum of k nodes (an odd number) that is not deep, sum that sum.
func wide(k int) string {
	if k == 1 {
		return "w"
	}
	left := half(k)
	return "(" + wide(left) + ")+(" + wide(k-1-left) + ")"
}

func sum(k int) api.Expr {
	if k == 1 {
		return v("w")
	}
	left := half(k)
	return op(api.OpAdd, sum(left), sum(k-1-left))
}

func half(k int) int {
	if k/2%2 == 0 {
		return k/2 - 1
	}
	return k / 2
}

func TestLimits(t *testing.T) {
	reads(t, wide(4999), sum(4999))
	reads(t, "-("+wide(4999)+")", op(api.OpNeg, sum(4999)))
	fails(t, " - -("+wide(4999)+")", api.ErrMany, 1)
	fails(t, "  "+wide(5001), api.ErrMany, 2)
	chain := func(k int) string { return strings.Repeat("a-", k-1) + "a" }
	arrows := func(k int) string { return strings.Repeat("a->", k-1) + "a" }
	args := func(k int) string { return " f(" + strings.Repeat("a,", k-1) + "a)" }
	for _, k := range []int{39, 40, 41, 2500} {
		for _, s := range []string{" " + chain(k), " " + arrows(k), " " + strings.Repeat("a=>", k-1) + "a", " (" + arrows(k) + ")"} {
			if e, f := expr.Read(s); k <= 40 && (tree.Depth(e) != k || f != (api.Fault{})) || k > 40 && (len(e) != 0 || f != (api.Fault{Code: api.ErrDeep, At: 1})) {
				t.Errorf("P4.2: %.20q, %d deep: %d, %v", s, k, tree.Depth(e), f)
			}
		}
	}
	for k := range 43 {
		if e, f := expr.Read(args(k + 1)); k+1 <= 38 && (tree.Depth(e) != k+3 || !tree.May(e)) || k+1 > 38 && (len(e) != 0 || f != (api.Fault{Code: api.ErrDeep, At: 1})) {
			t.Errorf("P4.2: %d arguments: %d, %v", k+1, tree.Depth(e), f)
		}
	}
	// ErrMany is named first; both are told behind all that is read.
	for _, s := range []string{chain(2501), arrows(2501), args(2500)[1:], args(49000)[1:], chain(49000), arrows(33000), strings.Repeat("f(a,b)*", 14000) + "a"} {
		fails(t, "  "+s, api.ErrMany, 2)
		fails(t, "  "+s+"+", api.ErrSyntax, -1)
		fails(t, "  ("+s+" b", api.ErrSyntax, len(s)+4)
		fails(t, "  "+s+" b", api.ErrMany, 2)
	}
	fails(t, args(2499), api.ErrDeep, 1)
	fails(t, "1 + "+chain(41)+" b", api.ErrDeep, 0)
	fails(t, chain(40)+" b", api.ErrSyntax, 80)
	fails(t, strings.Repeat("not ", 199)+"a", api.ErrDeep, 0)
	// A fault is told where the reading began.
	l, _ := lex.Lex("a ; " + chain(41))
	if e, next, f := expr.Parse(l, 2); len(e) != 0 || next != 0 || f != (api.Fault{Code: api.ErrDeep, At: 4}) {
		t.Errorf("P4.2: %d, %v", next, f)
	}
}

func TestLongRows(t *testing.T) {
	// Rows far longer than a source may be: they must not be calls within calls.
	for _, text := range []string{"->", "=>", "-", "since", "*", "and"} {
		l := make([]api.Token, 0, 600001)
		for i := range 300000 {
			l = append(l, api.Token{Kind: api.TokName, Text: "a", At: i + 5}, api.Token{Kind: api.TokSign, Text: text, At: i + 5})
		}
		if _, _, f := expr.Parse(l, 0); f != (api.Fault{Code: api.ErrSyntax, At: -1}) {
			t.Errorf("P4.2: a row of %q: %v", text, f)
		}
		l = append(l, api.Token{Kind: api.TokName, Text: "a"})
		if _, _, f := expr.Parse(l, 0); f != (api.Fault{Code: api.ErrMany, At: 5}) {
			t.Errorf("P4.2: a row of %q: %v", text, f)
		}
	}
}

func TestAnswerIsNew(t *testing.T) {
	l, _ := lex.Lex("f(a) + b")
	kept := slices.Clone(l)
	e, _, _ := expr.Parse(l, 0)
	want := slices.Clone(e)
	e[0] = api.Node{}
	if again, _, _ := expr.Parse(l, 0); !slices.Equal(again, want) || !slices.Equal(l, kept) {
		t.Errorf("R5, R6: %v, %v", again, l)
	}
	again, _ := expr.Read("f(a) + b")
	again[0] = api.Node{}
	reads(t, "f(a) + b", want)
}

// shown is the text of a term of such a level, with round signs where they must be, and where they need not.
func shown(r *rand.Rand, e api.Expr, level int) string {
	kids := tree.Kids(e[len(e)-1])
	top := e[len(e)-1]
	part := func(i, level int) string { return shown(r, tree.Sub(e, kids[i]), level) }
	s, own := "", 10
	switch top.Op {
	case api.OpNum:
		s = strconv.Itoa(top.N)
	case api.OpBool:
		s = []string{"false", "true"}[top.N]
	case api.OpVar:
		s = top.Name
	case api.OpIf:
		s = "if " + part(0, 0) + " then " + part(1, 0) + " else " + part(2, 0)
		own = 0 // what stands behind it would go on with what stands behind else
	case api.OpCall:
		var l []string
		for i := top.A; i >= 0; i = e[i].B {
			l = append(l, shown(r, tree.Sub(e, e[i].A), 0))
		}
		slices.Reverse(l)
		s = top.Name + "(" + strings.Join(l, ",") + ")"
	default:
		if p, ok := find(prefixes, func(p prefix) bool { return p.op == top.Op }); ok {
			if s, own = p.text+" ", 9; top.Op == api.OpWithin {
				s += strconv.Itoa(top.N) + " "
			}
			s += part(0, 9)
			break
		}
		var fit []binary
		for _, b := range binaries {
			if b.op == top.Op {
				fit = append(fit, b)
			}
		}
		b := fit[r.Intn(len(fit))]
		own = b.level
		left, right := own, own+1
		if own <= 2 {
			left, right = own+1, own
		} else if own == 6 {
			left = 7
		}
		first, second := 0, 1
		if b.turn {
			first, second = 1, 0
		}
		s = part(first, left) + " " + b.text + " " + part(second, right)
	}
	if own < level || r.Intn(8) == 0 {
		s = "(" + s + ")"
	}
	return s
}

func some(r *rand.Rand, deep int) api.Expr {
	if deep <= 1 || r.Intn(6) == 0 {
		return []api.Expr{n(r.Intn(100)), tree.Join(api.OpBool, r.Intn(2), ""), v("a"), v("b"), call("f")}[r.Intn(5)]
	}
	kid := func() api.Expr { return some(r, deep-1) }
	switch r.Intn(6) {
	case 0:
		p := prefixes[r.Intn(len(prefixes))]
		if p.op == api.OpWithin {
			return tree.Join(p.op, r.Intn(1001), "", kid())
		}
		return op(p.op, kid())
	case 1:
		return op(api.OpIf, kid(), kid(), kid())
	case 2:
		return call("g", []api.Expr{kid(), kid(), kid()}[:r.Intn(4)]...)
	}
	return op(binaries[r.Intn(len(binaries))].op, kid(), kid())
}

func TestWrittenIsRead(t *testing.T) {
	r := rand.New(rand.NewSource(8))
	for range 4000 {
		e := some(r, 1+r.Intn(6))
		s := shown(r, e, 0)
		reads(t, s, e)
		reads(t, "("+s+")", e)
		reads(t, strings.ReplaceAll(s, " ", " --\n\t"), e)
	}
}
