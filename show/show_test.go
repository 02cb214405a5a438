package show_test

import (
	"math"
	"math/rand"
	"slices"
	"strconv"
	"strings"
	"testing"

	"bailment/api"
	"bailment/expr"
	"bailment/lex"
	"bailment/show"
	"bailment/tree"
)

func v(name string) api.Expr { return tree.Join(api.OpVar, 0, name) }

func n(k int) api.Expr { return tree.Join(api.OpNum, k, "") }

func op(o int, parts ...api.Expr) api.Expr { return tree.Join(o, 0, "", parts...) }

func call(name string, parts ...api.Expr) api.Expr {
	return tree.Join(api.OpCall, 0, name, parts...)
}

func within(k int, e api.Expr) api.Expr { return tree.Join(api.OpWithin, k, "", e) }

// shows tells that an expression is written so, and that this is read again.
func shows(t *testing.T, e api.Expr, want string) {
	t.Helper()
	kept := slices.Clone(e)
	if s := show.Show(e); s != want || !show.May(e) {
		t.Fatalf("P5.2: %v: %.300q, not %.300q", e, s, want)
	}
	if !slices.Equal(e, kept) {
		t.Fatalf("R5: %v is changed", kept)
	}
	if again, f := expr.Read(want); !slices.Equal(again, tree.Sub(e, len(e)-1)) || f != (api.Fault{}) {
		t.Fatalf("P5.3: %.300q: %v, %v", want, again, f)
	}
}

// nothing tells that an expression is not written.
func nothing(t *testing.T, e api.Expr) {
	t.Helper()
	if show.May(e) || show.Show(e) != "" {
		t.Fatalf("P5.1, P5.2: %d nodes, %.300q: it is written", len(e), show.Show(e))
	}
}

func TestExample(t *testing.T) {
	shows(t, op(api.OpSub, v("a"), op(api.OpSub, v("b"), v("c"))), "a - ( b - c )")
}

// levels are the texts and the operators of each level.
var levels = map[int]map[string]int{
	0:  {"if": api.OpIf},
	1:  {"->": api.OpArrow},
	2:  {"=>": api.OpImp},
	3:  {"since": api.OpSince},
	4:  {"or": api.OpOr, "xor": api.OpXor},
	5:  {"and": api.OpAnd},
	6:  {"=": api.OpEq, "<>": api.OpNe, "<": api.OpLt, "<=": api.OpLe},
	7:  {"+": api.OpAdd, "-": api.OpSub},
	8:  {"*": api.OpMul, "div": api.OpDiv, "mod": api.OpMod},
	9:  {"not": api.OpNot, "-": api.OpNeg, "pre": api.OpPre, "once": api.OpOnce, "hist": api.OpHist, "prev": api.OpPrev, "within": api.OpWithin},
	10: {},
}

func TestOpAndLevel(t *testing.T) {
	type both struct {
		text  string
		level int
	}
	want := map[int]both{api.OpNum: {"", 10}, api.OpBool: {"", 10}, api.OpVar: {"", 10}, api.OpCall: {"", 10}}
	for level, ops := range levels {
		for text, o := range ops {
			want[o] = both{text, level}
		}
	}
	if len(want) != 27 {
		t.Fatalf("%d operators", len(want))
	}
	ask := []int{math.MinInt, math.MinInt32, math.MaxInt32, math.MaxInt, 1<<32 + api.OpAnd, 1<<62 + api.OpIf, 256 + api.OpNot}
	for o := -70; o <= 300; o++ {
		ask = append(ask, o)
	}
	for _, o := range ask {
		w, ok := want[o]
		if !ok {
			w.level = -1
		}
		if show.Op(o) != w.text || show.Level(o) != w.level {
			t.Errorf("P5.1: %d: %q, %d; not %q, %d", o, show.Op(o), show.Level(o), w.text, w.level)
		}
	}
}

func TestByHand(t *testing.T) {
	a, b, c := v("a"), v("b"), v("c")
	choice := op(api.OpIf, a, b, c)
	for want, e := range map[string]api.Expr{
		"0": n(0), "7": n(7), "2147483647": n(math.MaxInt32), "true": tree.Join(api.OpBool, 1, ""), "false": tree.Join(api.OpBool, 0, ""), "_": v("_"), "a9_z": v("a9_z"),
		"f ( )": call("f"), "f ( a )": call("f", a), "f ( a , b , c )": call("f", a, b, c), "f ( g ( ) , g ( a , 1 ) )": call("f", call("g"), call("g", a, n(1))), "f ( a -> b , if a then b else c , not c )": call("f", op(api.OpArrow, a, b), choice, op(api.OpNot, c)), "- f ( a )": op(api.OpNeg, call("f", a)),
		"if a then b else c": choice, "if a -> b then b => c else c or a": op(api.OpIf, op(api.OpArrow, a, b), op(api.OpImp, b, c), op(api.OpOr, c, a)), "if if a then b else c then if a then b else c else if a then b else c": op(api.OpIf, choice, choice, choice), "( if a then b else c ) + 1": op(api.OpAdd, choice, n(1)), "1 + ( if a then b else c )": op(api.OpAdd, n(1), choice), "a -> ( if a then b else c )": op(api.OpArrow, a, choice), "( if a then b else c ) => ( if a then b else c )": op(api.OpImp, choice, choice), "pre ( if a then b else c )": op(api.OpPre, choice),
		"within 0 a": within(0, a), "within 1000 within 3 a": within(1000, within(3, a)), "within 2 ( a or b )": within(2, op(api.OpOr, a, b)), "within 2 a or b": op(api.OpOr, within(2, a), b), "within 5 7": within(5, n(7)), "within 5 ( if a then b else c )": within(5, choice),
		"not not a": op(api.OpNot, op(api.OpNot, a)), "- - 1": op(api.OpNeg, op(api.OpNeg, n(1))), "a - - b": op(api.OpSub, a, op(api.OpNeg, b)), "- ( a - b )": op(api.OpNeg, op(api.OpSub, a, b)), "- a * b": op(api.OpMul, op(api.OpNeg, a), b), "- ( a * b )": op(api.OpNeg, op(api.OpMul, a, b)), "once hist prev pre a": op(api.OpOnce, op(api.OpHist, op(api.OpPrev, op(api.OpPre, a)))),
		"a -> b -> c": op(api.OpArrow, a, op(api.OpArrow, b, c)), "( a -> b ) -> c": op(api.OpArrow, op(api.OpArrow, a, b), c), "a => b => c": op(api.OpImp, a, op(api.OpImp, b, c)), "( a => b ) => c": op(api.OpImp, op(api.OpImp, a, b), c), "a -> b => c": op(api.OpArrow, a, op(api.OpImp, b, c)), "a => ( b -> c )": op(api.OpImp, a, op(api.OpArrow, b, c)), "a => b -> c": op(api.OpArrow, op(api.OpImp, a, b), c),
		"a since b since c": op(api.OpSince, op(api.OpSince, a, b), c), "a since ( b since c )": op(api.OpSince, a, op(api.OpSince, b, c)), "a xor b or c": op(api.OpOr, op(api.OpXor, a, b), c), "a xor ( b or c )": op(api.OpXor, a, op(api.OpOr, b, c)), "a and ( b and c )": op(api.OpAnd, a, op(api.OpAnd, b, c)), "a or b and c": op(api.OpOr, a, op(api.OpAnd, b, c)), "( a or b ) and c": op(api.OpAnd, op(api.OpOr, a, b), c),
		"( a = b ) = c": op(api.OpEq, op(api.OpEq, a, b), c), "a = ( b = c )": op(api.OpEq, a, op(api.OpEq, b, c)), "( a <> b ) <= ( b < c )": op(api.OpLe, op(api.OpNe, a, b), op(api.OpLt, b, c)), "a + 1 < b - 1": op(api.OpLt, op(api.OpAdd, a, n(1)), op(api.OpSub, b, n(1))),
		"a div b mod c": op(api.OpMod, op(api.OpDiv, a, b), c), "a div ( b mod c )": op(api.OpDiv, a, op(api.OpMod, b, c)), "a * b + c": op(api.OpAdd, op(api.OpMul, a, b), c), "a * ( b + c )": op(api.OpMul, a, op(api.OpAdd, b, c)), "( a + b ) * c": op(api.OpMul, op(api.OpAdd, a, b), c),
	} {
		shows(t, e, want)
	}
	// Greater is not written: a > b is an Lt, whose operands are turned.
	e, _ := expr.Read("a > b and (c >= (a > b))")
	shows(t, e, "b < a and ( b < a ) <= c")
}

// An expression is written by its last node, however its nodes stand.
func TestOrderIsNotSeen(t *testing.T) {
	x, y := v("x")[0], v("y")[0]
	arg := func(a, b int) api.Node { return api.Node{Op: api.OpArgs, A: a, B: b, C: -1} }
	shows(t, api.Expr{x, y, {Op: api.OpSub, A: 1, B: 0, C: -1}}, "y - x")
	shows(t, api.Expr{x, y, {Op: api.OpNot, A: 0, B: -1, C: -1}, {Op: api.OpIf, A: 2, B: 1, C: 4}}[:3][1:2], "y")
	shows(t, api.Expr{x, y, x, {Op: api.OpIf, A: 1, B: 2, C: 0}}, "if y then x else x")
	shows(t, api.Expr{y, x, arg(1, -1), arg(0, 2), {Op: api.OpCall, A: 3, B: -1, C: -1, Name: "f"}}, "f ( x , y )")
}

func TestMay(t *testing.T) {
	long := strings.Repeat("a", 40)
	for _, name := range []string{"a", "_", "__9", "true_", "nodes", long} {
		shows(t, v(name), name)
		shows(t, call(name), name+" ( )")
		shows(t, op(api.OpAdd, call(name, v(name)), v(name)), name+" ( "+name+" ) + "+name)
	}
	for _, name := range []string{"", "A", "1f", "9", "a b", " a", "a ", "a\n", "-", "(", "é", "\xff", long + "a", "node", "true", "false", "if", "pre", "tel", "div"} {
		for _, e := range []api.Expr{v(name), call(name), call(name, v("a"))} {
			nothing(t, e)
			nothing(t, op(api.OpNot, e))
			nothing(t, op(api.OpSub, v("a"), e))
			nothing(t, call("f", v("a"), e, v("a")))
		}
	}
	x := v("x")[0]
	for _, e := range []api.Expr{nil, {}, {x, x}, {{Op: 0, A: -1, B: -1, C: -1}}, {{Op: 29, A: -1, B: -1, C: -1}}, {{Op: api.OpVar, Name: "x"}}, {{Op: api.OpNot, A: 0, B: -1, C: -1}}, {x, {Op: api.OpNot, A: 0, B: 0, C: -1}}, {x, {Op: api.OpAnd, A: 0, B: 0, C: -1}}, {x, {Op: api.OpArgs, A: 0, B: -1, C: -1}}, {x, {Op: api.OpCall, A: 0, B: -1, C: -1, Name: "f"}}, {x, {Op: api.OpWithin, A: 0, B: -1, C: -1, N: 1001}}, n(-1), n(1 << 31), tree.Join(api.OpBool, 2, ""), tree.Join(api.OpNum, 1, "x")} {
		nothing(t, e)
	}
}

// full writes an expression with a pair of signs around each operand: square
// ones, where round signs must stand whether the text needs them or not, else
// curly ones. (Round signs are those of calls.)
func full(e api.Expr, i int) []string {
	top := e[i]
	kids := tree.Kids(top)
	free := func(k int) []string { return slices.Concat([]string{"{"}, full(e, k), []string{"}"}) }
	operand := func(k int) []string {
		if e[k].Op == api.OpIf {
			return slices.Concat([]string{"["}, full(e, k), []string{"]"})
		}
		return free(k)
	}
	switch top.Op {
	case api.OpNum:
		return []string{strconv.Itoa(top.N)}
	case api.OpBool:
		return []string{strconv.FormatBool(top.N == 1)}
	case api.OpVar:
		return []string{top.Name}
	case api.OpIf:
		return slices.Concat([]string{"if"}, free(kids[0]), []string{"then"}, free(kids[1]), []string{"else"}, free(kids[2]))
	case api.OpCall:
		l := []string{")"}
		for k := top.A; k >= 0; k = e[k].B {
			if len(l) > 1 {
				l = append([]string{","}, l...)
			}
			l = append(free(e[k].A), l...)
		}
		return append([]string{top.Name, "("}, l...)
	case api.OpWithin:
		return append([]string{"within", strconv.Itoa(top.N)}, operand(kids[0])...)
	}
	text := ""
	for _, ops := range levels {
		for s, o := range ops {
			if o == top.Op {
				text = s
			}
		}
	}
	if len(kids) == 1 {
		return append([]string{text}, operand(kids[0])...)
	}
	return slices.Concat(operand(kids[0]), []string{text}, operand(kids[1]))
}

var rounded = strings.NewReplacer("{", "(", "}", ")", "[", "(", "]", ")")

// said is what P5.2 says, told in another way: of all round signs those are
// left out without which the text is read as the same expression.
func said(e api.Expr) string {
	l := full(e, len(e)-1)
	want := tree.Sub(e, len(e)-1)
	for i := 0; i < len(l); {
		if l[i] != "{" {
			i++
			continue
		}
		end, open := i, 0
		for ; ; end++ {
			switch l[end] {
			case "{":
				open++
			case "}":
				open--
			}
			if open == 0 {
				break
			}
		}
		without := slices.Concat(l[:i], l[i+1:end], l[end+1:])
		if again, _ := expr.Read(rounded.Replace(strings.Join(without, " "))); slices.Equal(again, want) {
			l = without
		} else {
			i++
		}
	}
	return rounded.Replace(strings.Join(l, " "))
}

// some is an expression of any operators, at most so deep (but for the arguments of calls).
func some(r *rand.Rand, deep int) api.Expr {
	if deep <= 1 || r.Intn(6) == 0 {
		return []api.Expr{n(r.Intn(100)), tree.Join(api.OpBool, r.Intn(2), ""), v("a"), v("b"), call("f")}[r.Intn(5)]
	}
	kid := func() api.Expr { return some(r, deep-1) }
	switch o := api.OpNot + r.Intn(api.OpCall-api.OpNot+1); o {
	case api.OpNot, api.OpNeg, api.OpPre, api.OpOnce, api.OpHist, api.OpPrev:
		return op(o, kid())
	case api.OpWithin:
		return within(r.Intn(1001), kid())
	case api.OpIf:
		return op(o, kid(), kid(), kid())
	case api.OpCall:
		return call("g", []api.Expr{kid(), kid(), kid()}[:r.Intn(4)]...)
	default:
		return op(o, kid(), kid())
	}
}

// shuffled is an expression whose nodes stand in another order, operands ahead.
func shuffled(r *rand.Rand, e api.Expr) api.Expr {
	to := make([]int, len(e))
	for i := range to {
		to[i] = -1
	}
	var out api.Expr
	for len(out) < len(e) {
		i := r.Intn(len(e))
		ready := to[i] < 0
		for _, k := range tree.Kids(e[i]) {
			ready = ready && to[k] >= 0
		}
		if !ready {
			continue
		}
		node := e[i]
		for _, f := range []*int{&node.A, &node.B, &node.C} {
			if *f >= 0 {
				*f = to[*f]
			}
		}
		to[i] = len(out)
		out = append(out, node)
	}
	return out
}

// Each operator stands as each operand of each other one.
func TestPairs(t *testing.T) {
	outer := func(o int, at int, in api.Expr) api.Expr {
		parts := []api.Expr{v("x"), v("y"), v("z")}
		parts[at] = in
		switch kids := len(tree.Kids(api.Node{Op: o, A: 0, B: 1, C: 2})); {
		case o == api.OpCall:
			return call("f", parts...)
		case at >= kids:
			return nil
		case o == api.OpWithin:
			return within(4, in)
		default:
			return op(o, parts[:kids]...)
		}
	}
	seen := 0
	for o := api.OpNot; o <= api.OpCall; o++ {
		for p := api.OpNot; p <= api.OpCall; p++ {
			for at := range 3 {
				e := outer(o, at, outer(p, 0, v("w")))
				if len(e) == 0 {
					continue
				}
				shows(t, e, said(e))
				again, _ := expr.Read(show.Show(e))
				shows(t, op(api.OpNot, again), said(op(api.OpNot, again)))
				seen++
			}
		}
	}
	if seen != (7+15*2+3+3)*24 {
		t.Errorf("%d pairs", seen)
	}
}

func TestMany(t *testing.T) {
	r := rand.New(rand.NewSource(11))
	for range 1500 {
		e := some(r, 1+r.Intn(6))
		if len(e) < 60 {
			shows(t, e, said(e))
			shows(t, shuffled(r, e), said(e))
		}
		if s := show.Show(e); s != show.Show(shuffled(r, e)) {
			t.Fatalf("P5.2: %v: %q", e, s)
		}
		again, f := expr.Read(show.Show(e))
		if !slices.Equal(again, e) || f != (api.Fault{}) {
			t.Fatalf("P5.3: %v: %q, %v", e, show.Show(e), f)
		}
	}
}

// One blank stands between any two tokens, and nowhere else.
func TestBlanks(t *testing.T) {
	r := rand.New(rand.NewSource(12))
	for range 1000 {
		s := show.Show(some(r, 1+r.Intn(8)))
		if l, f := lex.Lex(s); f != (api.Fault{}) || lex.Join(l) != s || len(l) == 0 {
			t.Fatalf("P5.2: %q, %v", s, f)
		}
	}
}

// sum is one of k nodes (an odd number) that is not deep.
func sum(name string, k int) api.Expr {
	if k == 1 {
		return v(name)
	}
	left := k / 2
	if left%2 == 0 {
		left--
	}
	return op(api.OpAdd, sum(name, left), sum(name, k-1-left))
}

func TestLimits(t *testing.T) {
	deepest := map[string]struct {
		under      func(e api.Expr) api.Expr
		begin, end string
	}{
		"prefix": {func(e api.Expr) api.Expr { return op(api.OpPre, e) }, "pre ", ""},
		"left":   {func(e api.Expr) api.Expr { return op(api.OpSub, e, v("a")) }, "", " - a"},
		"right":  {func(e api.Expr) api.Expr { return op(api.OpArrow, v("a"), e) }, "a -> ", ""},
		"signs":  {func(e api.Expr) api.Expr { return op(api.OpSub, v("a"), e) }, "a - ( ", " )"},
		"if":     {func(e api.Expr) api.Expr { return op(api.OpIf, e, v("b"), v("c")) }, "if ", " then b else c"},
		"else":   {func(e api.Expr) api.Expr { return op(api.OpIf, v("b"), v("c"), e) }, "if b then c else ", ""},
	}
	for what, d := range deepest {
		e := op(api.OpOr, v("x"), v("y"))
		text := "x or y"
		for i := 3; i <= 42; i++ {
			e = d.under(e)
			if i > 40 {
				nothing(t, e)
				continue
			}
			if i == 3 && (what == "prefix" || what == "left") { // an Or is looser than what stands over it
				text = "( " + text + " )"
			}
			text = d.begin + text + d.end
			shows(t, e, text)
		}
	}
	for k := 1; k <= 40; k++ {
		var args []api.Expr
		for range k {
			args = append(args, v("a"))
		}
		if e := call("f", args...); k <= 38 {
			shows(t, e, "f ( "+strings.Repeat("a , ", k-1)+"a )")
		} else {
			nothing(t, e)
		}
	}
	big := sum("w", 4999)
	shows(t, op(api.OpNeg, big), "- ( "+show.Show(big)+" )")
	nothing(t, op(api.OpNeg, op(api.OpNeg, big)))
	nothing(t, sum("w", 5001))
	// A text may be longer than a source: it is written all the same.
	name := strings.Repeat("n", 40)
	s := show.Show(sum(name, 4999))
	if strings.Count(s, name) != 2500 || strings.Count(s, "+") != 2499 || strings.ReplaceAll(s, name, "w") != show.Show(big) {
		t.Errorf("P5.2: %d bytes", len(s))
	}
	if _, f := expr.Read(s); f != (api.Fault{Code: api.ErrMany, At: -1}) {
		t.Errorf("P2.1: %v", f)
	}
}

func TestAnythingEnds(t *testing.T) {
	r := rand.New(rand.NewSource(13))
	number := func() int {
		return []int{math.MinInt, -2, -1, -1, -1, 0, 0, 1, 2, 3, 1 << 40, math.MaxInt}[r.Intn(12)]
	}
	written := 0
	for range 60000 {
		e := shuffled(r, some(r, 1+r.Intn(4)))
		for range r.Intn(3) {
			node := &e[r.Intn(len(e))]
			switch r.Intn(3) {
			case 0:
				node.Name = []string{"", "a", "A", "not"}[r.Intn(4)]
			case 1:
				node.Op = r.Intn(33) - 2
			default:
				*[]*int{&node.A, &node.B, &node.C, &node.N}[r.Intn(4)] = number()
			}
		}
		kept := slices.Clone(e)
		want := tree.May(e)
		for _, node := range e {
			if node.Op == api.OpVar || node.Op == api.OpCall {
				want = want && lex.IsName(node.Name)
			}
		}
		s := show.Show(e)
		if show.May(e) != want || want != (s != "") || s != show.Show(e) || !slices.Equal(e, kept) {
			t.Fatalf("P5.1, R3, R5, R6: %v: %v, %q", e, show.May(e), s)
		}
		if want {
			written++
		}
	}
	if written < 20000 || written > 50000 {
		t.Errorf("%d are written", written)
	}
}
