package past_test

import (
	"fmt"
	"math"
	"regexp"
	"slices"
	"strconv"
	"strings"
	"testing"
	"time"

	"bailment/api"
	"bailment/expr"
	"bailment/flat"
	"bailment/past"
	"bailment/tree"
)

func v(name string) api.Expr { return tree.Join(api.OpVar, 0, name) }

func op(op int, parts ...api.Expr) api.Expr { return tree.Join(op, 0, "", parts...) }

func within(n int, e api.Expr) api.Expr { return tree.Join(api.OpWithin, n, "", e) }

// ors is one of n parts that is not deep.
func ors(n int, part func(i int) api.Expr) api.Expr {
	next := 0
	var of func(n int) api.Expr
	of = func(n int) api.Expr {
		if n == 1 {
			next++
			return part(next - 1)
		}
		a := of(n / 2)
		return op(api.OpOr, a, of(n-n/2))
	}
	return of(n)
}

// nots are so many over an expression.
func nots(n int, e api.Expr) api.Expr {
	for range n {
		e = op(api.OpNot, e)
	}
	return e
}

// short is the beginning of what a thing is as a text.
func short(x any) string {
	s := fmt.Sprint(x)
	return s[:min(len(s), 800)]
}

var (
	memory = regexp.MustCompile(`@(\d+)\.?([ab]?)`)
	kept   = regexp.MustCompile(`^q(\d+)_([ab]?)$`)
)

// read is an expression in which memories may stand.
func read(t *testing.T, s string) api.Expr {
	t.Helper()
	e, f := expr.Read(memory.ReplaceAllString(s, "q${1}_$2"))
	if f.Code != api.OK {
		t.Fatalf("%q: %v", s, f)
	}
	for i, n := range e {
		if m := kept.FindStringSubmatch(n.Name); m != nil {
			e[i].Name = strings.TrimSuffix("@"+m[1]+"."+m[2], ".")
		}
	}
	return e
}

// streams are read from texts such as "a int" and "x bool = @1".
func streams(t *testing.T, l ...string) []api.Stream {
	t.Helper()
	var out []api.Stream
	for _, s := range l {
		head, e, is := strings.Cut(s, " = ")
		name, kind, _ := strings.Cut(head, " ")
		x := api.Stream{Name: name, Type: map[string]int{"bool": api.Bool, "int": api.Int}[kind]}
		if is {
			x.E = read(t, e)
		}
		out = append(out, x)
	}
	return out
}

func same(a, b api.Stream) bool {
	return a.Name == b.Name && a.Type == b.Type && slices.Equal(a.E, b.E)
}

// alone tells that no two lists of an answer share memory, and spoils them all.
func alone(t *testing.T, l []api.Stream) {
	t.Helper()
	for i, s := range l {
		whole := s.E[:cap(s.E)]
		for k := range whole {
			whole[k].N = -i - 1
		}
	}
	for i, s := range l {
		for _, n := range s.E[:cap(s.E)] {
			if n.N != -i-1 {
				t.Fatalf("R5: %s shares its memory", s.Name)
			}
		}
	}
}

// frees tells what streams become, twice: what is answered is nobody else's memory.
func frees(t *testing.T, l []api.Stream, want []api.Stream) {
	t.Helper()
	l = append(slices.Clip(l), api.Stream{Name: "behind"})
	before := fmt.Sprint(l)
	for range 2 {
		got, f := past.Free(l[:len(l)-1])
		if f != api.OK || !slices.EqualFunc(got, want, same) {
			t.Errorf("P13.2: %s: %s, %d, not %s", short(l), short(got), f, short(want))
			return
		}
		alone(t, got)
		for i := range got {
			got[i].Name = "other"
		}
		_ = append(got, api.Stream{Name: "more"})
	}
	if fmt.Sprint(l) != before {
		t.Errorf("R5: %s is changed", short(before))
	}
}

func fails(t *testing.T, what string, l []api.Stream, want api.Errno) {
	t.Helper()
	for range 2 {
		if got, f := past.Free(l); f != want || len(got) != 0 {
			t.Errorf("P13.2: %s: %s, %d, not %d", what, short(got), f, want)
		}
	}
}

func TestHas(t *testing.T) {
	for s, want := range map[string]bool{
		"a": false, "1": false, "true": false, "pre a": false, "0 -> pre a": false, "not a": false, "a + b * c": false, "if a then b else c": false, "f()": false, "f(a, pre b)": false,
		"once a": true, "hist a": true, "prev a": true, "within 0 a": true, "within 7 a": true, "a since b": true,
		"once a or b": true, "b or once a": true, "not hist a": true, "pre prev a": true, "prev pre a": true, "a -> b since c": true, "f(prev a)": true, "f(a, b, within 1 c)": true, "if a then b else once c": true, "if once a then b else c": true, "once once a": true,
	} {
		e := read(t, s)
		before := slices.Clone(e)
		if past.Has(e) != want || past.Has(e) != want {
			t.Errorf("P13.1: %q: %v", s, !want)
		}
		if !slices.Equal(e, before) {
			t.Errorf("R5: %q is changed", s)
		}
	}
	if past.Has(nil) || past.Has(api.Expr{}) {
		t.Errorf("P13.1: of no node")
	}
}

// Has asks for operators alone, whether the expression may be or not.
func TestHasAnyNode(t *testing.T) {
	is := func(op int) bool {
		return slices.Contains([]int{api.OpOnce, api.OpHist, api.OpPrev, api.OpWithin, api.OpSince}, op)
	}
	for _, o := range append(counted(-40, 80), math.MinInt, math.MaxInt, 1<<32+api.OpOnce) {
		for at := range 4 {
			for _, other := range []api.Node{{}, {Op: api.OpPre, A: 900, B: -7, C: 2, N: -1, Name: "once"}, v("a")[0]} {
				e := api.Expr{other, other, other, other}
				if past.Has(e) {
					t.Fatalf("P13.1: %v", e)
				}
				e[at].Op = o
				if past.Has(e) != is(o) || past.Has(e[:at]) || past.Has(e[at:at+1]) != is(o) {
					t.Errorf("P13.1: operator %d as node %d", o, at)
				}
			}
		}
	}
	long := make(api.Expr, 20000)
	if past.Has(long) {
		t.Errorf("P13.1: a long one")
	}
	long[19999].Op = api.OpPrev
	if !past.Has(long) {
		t.Errorf("P13.1: the last node of a long one")
	}
}

// counted are the numbers from one on, so many.
func counted(from, n int) []int {
	var l []int
	for i := range n {
		l = append(l, from+i)
	}
	return l
}

func TestEachOperator(t *testing.T) {
	inputs := []string{"a bool", "b bool", "c int"}
	for s, want := range map[string][]string{
		"once a":        {"@1", "@1.a bool = a", "@1 bool = @1.a or (false -> pre @1)"},
		"hist a":        {"@1", "@1.a bool = a", "@1 bool = @1.a and (true -> pre @1)"},
		"prev a":        {"@1", "@1.a bool = a", "@1 bool = false -> pre (@1.a or false)"},
		"a since b":     {"@1", "@1.a bool = a", "@1.b bool = b", "@1 bool = @1.b or (@1.a and (false -> pre @1))"},
		"b since a":     {"@1", "@1.a bool = b", "@1.b bool = a", "@1 bool = @1.b or (@1.a and (false -> pre @1))"},
		"within 3 a":    {"0 < @1", "@1.a bool = a", "@1 int = if @1.a then 4 else (0 -> if 0 < pre @1 then pre @1 - 1 else 0)"},
		"within 0 a":    {"0 < @1", "@1.a bool = a", "@1 int = if @1.a then 1 else (0 -> if 0 < pre @1 then pre @1 - 1 else 0)"},
		"within 1000 a": {"0 < @1", "@1.a bool = a", "@1 int = if @1.a then 1001 else (0 -> if 0 < pre @1 then pre @1 - 1 else 0)"},
	} {
		frees(t, streams(t, append(inputs, "x bool = "+s)...), streams(t, slices.Concat(inputs, []string{"x bool = " + want[0]}, want[1:])...))
	}
}

// The texts of the chapter, of memory k, by their operators.
func once(k int, a string) []string { return is(k, "bool = A or (false -> pre M)", a) }
func hist(k int, a string) []string { return is(k, "bool = A and (true -> pre M)", a) }
func prev(k int, a string) []string { return is(k, "bool = false -> pre (A or false)", a) }
func since(k int, a, b string) []string {
	return is(k, "bool = B or (A and (false -> pre M))", a, b)
}
func lasts(k int, n int, a string) []string {
	return is(k, fmt.Sprintf("int = if A then %d else (0 -> if 0 < pre M then pre M - 1 else 0)", n+1), a)
}

func is(k int, text string, operands ...string) []string {
	m := "@" + strconv.Itoa(k)
	var l []string
	for i, e := range operands {
		l = append(l, m+"."+"ab"[i:i+1]+" bool = "+e)
	}
	return append(l, m+" "+strings.NewReplacer("A", m+".a", "B", m+".b", "M", m).Replace(text))
}

func TestManyOperators(t *testing.T) {
	for s, want := range map[string][]string{
		// None is left alone, in order.
		"a": {"a"}, "1": {"1"}, "0 -> pre x + 1": {"0 -> pre x + 1"}, "f()": {"f()"}, "if a then f(b, 2) else pre c": {"if a then f(b, 2) else pre c"},
		// In each other.
		"once prev b":             append([]string{"@2"}, slices.Concat(prev(1, "b"), once(2, "@1"))...),
		"prev once b":             append([]string{"@2"}, slices.Concat(once(1, "b"), prev(2, "@1"))...),
		"once once once a":        append([]string{"@3"}, slices.Concat(once(1, "a"), once(2, "@1"), once(3, "@2"))...),
		"within 2 within 5 a":     append([]string{"0 < @2"}, slices.Concat(lasts(1, 5, "a"), lasts(2, 2, "0 < @1"))...),
		"hist not once (a and b)": append([]string{"@2"}, slices.Concat(once(1, "a and b"), hist(2, "not @1"))...),
		"(once a) since (hist b)": append([]string{"@3"}, slices.Concat(once(1, "a"), hist(2, "b"), since(3, "@1", "@2"))...),
		"a since b since c":       append([]string{"@2"}, slices.Concat(since(1, "a", "b"), since(2, "@1", "c"))...),
		"a since (b since c)":     append([]string{"@2"}, slices.Concat(since(1, "b", "c"), since(2, "a", "@1"))...),
		"prev (not a since within 3 (b or prev (0 -> c) < 2))": append([]string{"@4"}, slices.Concat(prev(1, "0 -> c"), lasts(2, 3, "b or @1 < 2"), since(3, "not a", "0 < @2"), prev(4, "@3"))...),
		// Beside each other.
		"once a or hist b":                      append([]string{"@1 or @2"}, slices.Concat(once(1, "a"), hist(2, "b"))...),
		"hist b or once a":                      append([]string{"@1 or @2"}, slices.Concat(hist(1, "b"), once(2, "a"))...),
		"once a and (once a and once a)":        append([]string{"@1 and (@2 and @3)"}, slices.Concat(once(1, "a"), once(2, "a"), once(3, "a"))...),
		"if prev a then once b else within 1 c": append([]string{"if @1 then @2 else 0 < @3"}, slices.Concat(prev(1, "a"), once(2, "b"), lasts(3, 1, "c"))...),
		"not within 1 a = within 2 b":           append([]string{"not (0 < @1) = (0 < @2)"}, slices.Concat(lasts(1, 1, "a"), lasts(2, 2, "b"))...),
		"pre prev a":                            append([]string{"pre @1"}, prev(1, "a")...),
		"true -> pre (a since b) -> within 4 c": append([]string{"true -> pre @1 -> 0 < @2"}, slices.Concat(since(1, "a", "b"), lasts(2, 4, "c"))...),
		"a + 2 * (once b + (c - within 9 3))":   append([]string{"a + 2 * (@1 + (c - (0 < @2)))"}, slices.Concat(once(1, "b"), lasts(2, 9, "3"))...),
		// In calls.
		"f(once a)":                              append([]string{"f(@1)"}, once(1, "a")...),
		"once f(a)":                              append([]string{"@1"}, once(1, "f(a)")...),
		"once f()":                               append([]string{"@1"}, once(1, "f()")...),
		"f(a, within 2 b, prev c)":               append([]string{"f(a, 0 < @1, @2)"}, slices.Concat(lasts(1, 2, "b"), prev(2, "c"))...),
		"f(prev g(hist a, b), h(c since 1), 2)":  append([]string{"f(@2, h(@3), 2)"}, slices.Concat(hist(1, "a"), prev(2, "g(@1, b)"), since(3, "c", "1"))...),
		"f(within 1 a, within 2 a, within 3 a)":  append([]string{"f(0 < @1, 0 < @2, 0 < @3)"}, slices.Concat(lasts(1, 1, "a"), lasts(2, 2, "a"), lasts(3, 3, "a"))...),
		"f(g(), once b) or hist f(a, b + g(2))":  append([]string{"f(g(), @1) or @2"}, slices.Concat(once(1, "b"), hist(2, "f(a, b + g(2))"))...),
		"once a + f(within 1 (f(prev b)), 1, 2)": append([]string{"@1 + f(0 < @3, 1, 2)"}, slices.Concat(once(1, "a"), prev(2, "b"), lasts(3, 1, "f(@2)"))...),
	} {
		frees(t, streams(t, "x int = "+s), streams(t, append([]string{"x int = " + want[0]}, want[1:]...)...))
	}
}

// Operators are counted on from stream to stream; what they become stands behind all.
func TestManyStreams(t *testing.T) {
	frees(t, streams(t, "x bool = once y", "a bool", "y bool = hist x since prev a", "z int = 3", "w int = if once a then z else 0", "b int"),
		streams(t, slices.Concat([]string{"x bool = @1", "a bool", "y bool = @4", "z int = 3", "w int = if @5 then z else 0", "b int"},
			once(1, "y"), hist(2, "x"), prev(3, "a"), since(4, "@2", "@3"), once(5, "a"))...))
	var l, want, behind []string
	for i := range 12 {
		l = append(l, fmt.Sprintf("s%d bool = prev s%d", i, (i+1)%12))
		want = append(want, fmt.Sprintf("s%d bool = @%d", i, i+1))
		behind = append(behind, prev(i+1, fmt.Sprintf("s%d", (i+1)%12))...)
	}
	frees(t, streams(t, l...), streams(t, append(want, behind...)...))
	frees(t, nil, nil)
	frees(t, []api.Stream{}, nil)
	frees(t, streams(t, "a int", "b bool"), streams(t, "a int", "b bool"))
	frees(t, []api.Stream{{Name: "a", E: api.Expr{}}}, []api.Stream{{Name: "a"}})
	// Names and types are kept, whatever they are; names need mean nothing, nor be there once.
	e, m := op(api.OpOnce, v("@9")), op(api.OpAdd, v("zz"), v("@1.a"))
	frees(t, []api.Stream{{Name: "", Type: -5}, {Name: "A@ 1", Type: math.MaxInt, E: m}, {Name: "if", Type: 3, E: e}, {Name: "if", E: v("q")}},
		slices.Concat([]api.Stream{{Name: "", Type: -5}, {Name: "A@ 1", Type: math.MaxInt, E: m}, {Name: "if", Type: 3, E: v("@1")}, {Name: "if", E: v("q")}}, streams(t, once(1, "@9")...)))
}

// Nodes need not stand in order: they are counted, and put, in order.
func TestOutOfOrder(t *testing.T) {
	a, b := v("a")[0], v("b")[0]
	node := func(op int, a, b int) api.Node { return api.Node{Op: op, A: a, B: b, C: -1} }
	of := func(e ...api.Node) []api.Stream { return []api.Stream{{Name: "x", E: e}} }
	want := func(e string, l ...string) []api.Stream {
		return streams(t, append([]string{"x none = " + e}, l...)...)
	}
	frees(t, of(b, node(api.OpHist, 0, -1), a, node(api.OpOnce, 2, -1), node(api.OpImp, 3, 1)), want("@1 => @2", slices.Concat(once(1, "a"), hist(2, "b"))...))
	frees(t, of(b, a, node(api.OpHist, 0, -1), node(api.OpOnce, 1, -1), node(api.OpSince, 2, 3)), want("@3", slices.Concat(hist(1, "b"), once(2, "a"), since(3, "@1", "@2"))...))
	frees(t, of(b, a, node(api.OpSub, 1, 0)), want("a - b"))
	frees(t, of(b, a, node(api.OpSub, 1, 0), node(api.OpPrev, 2, -1)), want("@1", prev(1, "a - b")...))
	frees(t, of(b, a, node(api.OpSince, 1, 0)), want("@1", since(1, "a", "b")...))
	// The second argument ahead of the first one.
	call := api.Node{Op: api.OpCall, A: 5, B: -1, C: -1, Name: "f"}
	frees(t, of(b, node(api.OpOnce, 0, -1), a, node(api.OpHist, 2, -1), node(api.OpArgs, 3, -1), node(api.OpArgs, 1, 4), call), want("f(@1, @2)", slices.Concat(hist(1, "a"), once(2, "b"))...))
}

// bad are expressions that may not be.
func bad() []api.Expr {
	a := v("a")[0]
	return []api.Expr{
		{{}}, {a, a}, {{Op: api.OpVar, A: -1, B: -1, C: -1}}, {{Op: api.OpVar, Name: "a"}}, {a, {Op: api.OpOnce, A: 0}}, {a, {Op: api.OpOnce, A: 0, B: -1, C: -1, N: 1}}, {a, {Op: api.OpSince, A: 0, B: 0, C: -1}}, {a, {Op: api.OpPrev, A: 1, B: -1, C: -1}}, {a, {Op: api.OpHist, A: -1, B: -1, C: -1}}, {{Op: 29, A: -1, B: -1, C: -1}}, {{Op: api.OpSince, A: math.MaxInt, B: math.MinInt, C: -1}}, {a, {Op: api.OpArgs, A: 0, B: -1, C: -1}},
		within(1001, v("a")), within(-1, v("a")), nots(40, v("a")), op(api.OpOnce, nots(39, v("a"))), append(ors(2500, func(int) api.Expr { return v("a") }), a, api.Node{Op: api.OpAnd, A: 4998, B: 4999, C: -1}),
	}
}

func TestFaults(t *testing.T) {
	good := streams(t, "a bool", "x bool = once a")
	for i, e := range bad() {
		if tree.May(e) {
			t.Fatalf("case %d", i)
		}
		for at := range 3 {
			fails(t, "case "+strconv.Itoa(i), slices.Insert(slices.Clone(good), at, api.Stream{Name: "y", E: e}), api.ErrArg)
		}
		// It goes ahead of a name, whose ever that is, and of too many.
		fails(t, "case "+strconv.Itoa(i), []api.Stream{{Name: "@"}, {Name: "y", E: e}}, api.ErrArg)
		fails(t, "case "+strconv.Itoa(i), []api.Stream{{Name: "@1", E: e}}, api.ErrArg)
	}
	for _, name := range []string{"@", "@1", "@1.a", "@@", "@x", "@ ", "@\x00", "@a@"} {
		for at := range 3 {
			fails(t, name, slices.Insert(slices.Clone(good), at, api.Stream{Name: name}), api.ErrTwice)
			fails(t, name, slices.Insert(slices.Clone(good), at, api.Stream{Name: name, E: v("a")}), api.ErrTwice)
		}
	}
	for _, name := range []string{"", "a@", " @", "#1.c", "A", "\x00@", "\xff"} {
		if _, f := past.Free(append(slices.Clone(good), api.Stream{Name: name, E: v("a")})); f != api.OK {
			t.Errorf("P13.2: %q: %d", name, f)
		}
	}
	l := make([]api.Stream, 4002)
	if got, f := past.Free(l[:4000]); f != api.OK || len(got) != 4000 {
		t.Errorf("P13.2: 4000 streams: %d, %d", len(got), f)
	}
	fails(t, "4001 streams", l[:4001], api.ErrArg)
	l[3].Name = "@"
	fails(t, "4002 streams", l, api.ErrArg)
	fails(t, "4000 streams", l[:4000], api.ErrTwice)
}

// As many streams as there may be, and one more.
func TestMany(t *testing.T) {
	a := func(int) api.Expr { return v("a") }
	onces := func(n int) api.Expr { return ors(n, func(i int) api.Expr { return op(api.OpOnce, v("a")) }) }
	sinces := func(n int) api.Expr { return ors(n, func(i int) api.Expr { return op(api.OpSince, a(0), a(0)) }) }
	inputs := func(n int) []api.Stream { return slices.Repeat([]api.Stream{{Name: "a"}}, n) }
	of := func(n int, l ...api.Expr) []api.Stream {
		out := inputs(n)
		for _, e := range l {
			out = append(out, api.Stream{Name: "x", E: e})
		}
		return out
	}
	for i, c := range []struct {
		l    []api.Stream
		want int
	}{
		{of(0, onces(1000), onces(999)), 4000}, {of(1, onces(1000), onces(999)), 4001}, {of(0, onces(1000), onces(1000)), 4002}, {of(0, onces(999), v("a"), onces(999)), 3999}, {of(0, onces(1000), onces(999), v("a")), 4001},
		{of(0, sinces(666), sinces(666)), 3998}, {of(1, sinces(1000), sinces(333)), 4002}, {of(0, sinces(1000), v("a"), sinces(332)), 3999}, {of(2, sinces(332), sinces(1000)), 4000}, {of(3, sinces(332), sinces(1000)), 4001},
		{of(3997, onces(1)), 4000}, {of(3998, onces(1)), 4001}, {of(3999, onces(1)), 4002}, {of(3996, sinces(1)), 4000}, {of(3997, sinces(1)), 4001}, {of(3996, nots(3, within(3, v("a")))), 3999}, {of(3998, op(api.OpPrev, v("a"))), 4001}, {of(3997, op(api.OpHist, v("a"))), 4000}, {of(3994, op(api.OpSince, onces(1), v("a"))), 4000}, {of(3995, op(api.OpSince, onces(1), v("a"))), 4001},
		{of(0, onces(1600), onces(1600)), 6402}, {of(3999, v("a")), 4000},
	} {
		if c.want > 4000 {
			fails(t, "case "+strconv.Itoa(i), c.l, api.ErrMany)
			c.l[len(c.l)/2].Name = "@"
			fails(t, "case "+strconv.Itoa(i), c.l, api.ErrTwice)
			continue
		}
		got, f := past.Free(c.l)
		if f != api.OK || len(got) != c.want {
			t.Errorf("P13.2: case %d: %d, %d", i, len(got), f)
		}
		last := got[len(got)-1]
		if made := len(got) - len(c.l); made > 0 && (last.Name[0] != '@' || strings.Contains(last.Name, ".")) {
			t.Errorf("P13.2: case %d: %v", i, last)
		}
	}
}

// Of a Within's two nodes become three: so an expression may become too long.
func TestTooLong(t *testing.T) {
	l := streams(t, "a bool", "x bool")
	l[1].E = ors(1667, func(int) api.Expr { return within(1, v("a")) })
	if len(l[1].E) != 5000 || !tree.May(l[1].E) {
		t.Fatal(len(l[1].E))
	}
	got, f := past.Free(l)
	if f != api.OK || len(got) != 2+2*1667 || len(got[1].E) != 3*1667+1666 || tree.May(got[1].E) || past.Has(got[1].E) || !inOrder(got[1].E) {
		t.Fatalf("P13.3: %d streams, %d", len(got), f)
	}
	for i := range 1667 {
		name := "@" + strconv.Itoa(i+1)
		if got[2+2*i].Name != name+".a" || got[3+2*i].Name != name {
			t.Fatalf("P13.2: %s, %s", got[2+2*i].Name, got[3+2*i].Name)
		}
	}
	if _, f := flat.Run(got, nil); f != api.ErrArg {
		t.Errorf("P13.3: %d", f)
	}
	// As long as may be.
	l[1].E = ors(1250, func(int) api.Expr { return within(1, v("a")) })
	got, _ = past.Free(l)
	if len(got[1].E) != 4999 || !tree.May(got[1].E) {
		t.Errorf("P13.3: %d nodes", len(got[1].E))
	}
	rows, f := flat.Run(got, [][]int{{0}, {1}, {0}, {0}})
	if f != api.OK || rows[0][1] != 0 || rows[1][1] != 1 || rows[2][1] != 1 || rows[3][1] != 0 {
		t.Errorf("P13.3: %d", f)
	}
	// As deep as may be: each one's operand is a stream of its own.
	l[1].E = v("a")
	for range 39 {
		l[1].E = within(1, l[1].E)
	}
	got, f = past.Free(l)
	if f != api.OK || len(got) != 2+2*39 || tree.Depth(got[1].E) != 2 {
		t.Errorf("P13.2: %d, %d", len(got), f)
	}
	// What stands in its place is no deeper than it was.
	l[1].E = nots(38, within(1, v("a")))
	got, _ = past.Free(l)
	if tree.Depth(l[1].E) != 40 || tree.Depth(got[1].E) != 40 || !tree.May(got[1].E) {
		t.Errorf("P13.3: depth %d", tree.Depth(got[1].E))
	}
}

// Great expressions take no time that matters.
func TestGreat(t *testing.T) {
	began := time.Now()
	var l []api.Stream
	for i := range 200 {
		e := ors(2480, func(int) api.Expr { return v("a") })
		for k := range 27 {
			e = []func(api.Expr) api.Expr{func(e api.Expr) api.Expr { return op(api.OpOnce, e) }, func(e api.Expr) api.Expr { return within(k, e) }, func(e api.Expr) api.Expr { return op(api.OpNot, e) }}[k%3](e)
		}
		l = append(l, api.Stream{Name: "s" + strconv.Itoa(i), E: e})
	}
	got, f := past.Free(l[:105])
	if f != api.OK || len(got) != 105+105*36 {
		t.Errorf("P13.2: %d, %d", len(got), f)
	}
	fails(t, "great ones", l, api.ErrMany)
	if took := time.Since(began); took > time.Minute {
		t.Errorf("%v", took)
	}
}
