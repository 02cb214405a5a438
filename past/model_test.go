package past_test

import (
	"fmt"
	"math"
	"math/rand"
	"slices"
	"strconv"
	"strings"
	"testing"

	"bailment/api"
	"bailment/flat"
	"bailment/past"
	"bailment/tree"
)

// inOrder tells whether nodes stand directly behind their operands, as chapter 3
// says; of expressions, too, that are too long.
func inOrder(e api.Expr) bool {
	var open []int // nodes whose place as an operand is still to come
	for i, n := range e {
		kids := tree.Kids(n)
		from := len(open) - len(kids)
		if from < 0 || !slices.Equal(open[from:], kids) {
			return false
		}
		fields := []int{n.A, n.B, n.C}
		left := slices.DeleteFunc(fields, func(k int) bool { return k == -1 })
		if len(left) != len(kids) {
			return false
		}
		open = append(open[:from], i)
	}
	return len(open) == 1
}

// word is a node as a text, but for where its operands stand.
func word(n api.Node) string {
	return fmt.Sprintf("%d/%d:%d:%s", n.Op, len(tree.Kids(n)), n.N, n.Name)
}

// said is what chapter 13 says, told in another way: expressions are rows of
// words, each operator behind its operands' words, which wait on a pile.
type said struct {
	k      int
	behind []string
}

func (s *said) stream(x api.Stream) string {
	if len(x.E) == 0 {
		return line(x.Name, x.Type, "")
	}
	var pile []string
	for _, n := range tree.Sub(x.E, len(x.E)-1) {
		from := len(pile) - len(tree.Kids(n))
		operands := slices.Clone(pile[from:])
		pile = append(pile[:from], s.node(n, operands))
	}
	return line(x.Name, x.Type, pile[0])
}

func line(name string, kind int, words string) string {
	return fmt.Sprintf("%q %d = %s", name, kind, words)
}

func (s *said) node(n api.Node, operands []string) string {
	text, kind := "", api.Bool
	switch n.Op {
	case api.OpOnce:
		text = "A F M pre -> or"
	case api.OpHist:
		text = "A T M pre -> and"
	case api.OpPrev:
		text = "F A F or pre ->"
	case api.OpSince:
		text = "B A F M pre -> and or"
	case api.OpWithin:
		text, kind = "A N 0 0 M pre < M pre 1 - 0 if -> if", api.Int
	default:
		return strings.Join(append(operands, word(n)), " ")
	}
	s.k++
	m := "@" + strconv.Itoa(s.k)
	s.behind = append(s.behind, line(m+".a", api.Bool, operands[0]))
	if n.Op == api.OpSince {
		s.behind = append(s.behind, line(m+".b", api.Bool, operands[1]))
	}
	s.behind = append(s.behind, line(m, kind, words(text, m, n.N+1)))
	if n.Op == api.OpWithin {
		return words("0 M <", m, 0)
	}
	return words("M", m, 0)
}

// words are those of a text.
func words(text string, m string, n int) string {
	of := map[string]api.Node{
		"A": {Op: api.OpVar, Name: m + ".a"}, "B": {Op: api.OpVar, Name: m + ".b"}, "M": {Op: api.OpVar, Name: m}, "N": {Op: api.OpNum, N: n},
		"F": {Op: api.OpBool}, "T": {Op: api.OpBool, N: 1}, "0": {Op: api.OpNum}, "1": {Op: api.OpNum, N: 1},
		"pre": {Op: api.OpPre}, "->": {Op: api.OpArrow}, "or": {Op: api.OpOr}, "and": {Op: api.OpAnd}, "<": {Op: api.OpLt}, "-": {Op: api.OpSub}, "if": {Op: api.OpIf},
	}
	var l []string
	for _, w := range strings.Fields(text) {
		l = append(l, word(of[w]))
	}
	return strings.Join(l, " ")
}

func (s *said) all(l []api.Stream) []string {
	var out []string
	for _, x := range l {
		out = append(out, s.stream(x))
	}
	return append(out, s.behind...)
}

// lines are streams as texts; of an expression that is not in order none.
func lines(l []api.Stream) []string {
	var out []string
	for _, x := range l {
		var words []string
		for _, n := range x.E {
			words = append(words, word(n))
		}
		if len(x.E) > 0 && !inOrder(x.E) {
			words = []string{"not in order"}
		}
		out = append(out, line(x.Name, x.Type, strings.Join(words, " ")))
	}
	return out
}

// somes makes expressions.
type somes struct {
	r     *rand.Rand
	names []string
	calls bool
}

func (s *somes) one(l ...int) int { return l[s.r.Intn(len(l))] }

func (s *somes) expr(deep int) api.Expr {
	if deep <= 1 || s.r.Intn(6) == 0 {
		if s.r.Intn(4) == 0 {
			return tree.Join(api.OpNum, s.one(0, 1, 1, 2, 3, math.MaxInt32), "")
		}
		return v(s.names[s.r.Intn(len(s.names))])
	}
	if s.calls && s.r.Intn(8) == 0 {
		var args []api.Expr
		for range s.r.Intn(4) {
			args = append(args, s.expr(deep-1))
		}
		return tree.Join(api.OpCall, 0, "f", args...)
	}
	o, n := api.OpNot+s.r.Intn(api.OpIf-api.OpNot+1), 0
	if s.r.Intn(3) == 0 {
		o = s.one(api.OpOnce, api.OpHist, api.OpPrev, api.OpWithin, api.OpSince, api.OpPre)
	}
	if (o == api.OpDiv || o == api.OpMod || o == api.OpMul) && s.r.Intn(4) > 0 {
		o = s.one(api.OpLt, api.OpEq, api.OpSub)
	}
	if o == api.OpWithin {
		n = s.one(0, 1, 2, 3, 4, 1000)
	}
	var parts []api.Expr
	for range tree.Kids(api.Node{Op: o}) {
		parts = append(parts, s.expr(deep-1))
	}
	return tree.Join(o, n, "", parts...)
}

// streams are some, in any order; now and then one needs itself.
func (s *somes) streams() []api.Stream {
	var l []api.Stream
	count := 1 + s.r.Intn(5)
	s.names = strings.Fields("a b c d e")[:count]
	for i, name := range s.names {
		x := api.Stream{Name: name, Type: s.one(api.Bool, api.Int, api.Int, 0)}
		if i > 0 && s.r.Intn(4) > 0 {
			x.E = s.expr(1 + s.r.Intn(5))
			for k, n := range x.E {
				if n.Op == api.OpVar && s.r.Intn(4) > 0 {
					x.E[k].Name = s.names[s.r.Intn(i)]
				}
			}
			x.E = shuffled(s.r, x.E)
		}
		l = append(l, x)
	}
	s.r.Shuffle(len(l), func(i, j int) { l[i], l[j] = l[j], l[i] })
	return l
}

// shuffled is an expression whose nodes stand in another order, operands ahead.
func shuffled(r *rand.Rand, e api.Expr) api.Expr {
	var out api.Expr
	to := map[int]int{-1: -1}
	for len(out) < len(e) {
		i := r.Intn(len(e))
		n := e[i]
		_, put := to[i]
		a, okA := to[n.A]
		b, okB := to[n.B]
		c, okC := to[n.C]
		if put || !okA || !okB || !okC {
			continue
		}
		n.A, n.B, n.C = a, b, c
		to[i] = len(out)
		out = append(out, n)
	}
	return out
}

func (s *somes) frames(l []api.Stream) [][]int {
	var in [][]int
	for range s.r.Intn(14) {
		var row []int
		for _, x := range l {
			switch {
			case len(x.E) > 0:
			case x.Type == api.Bool || s.r.Intn(2) == 0:
				row = append(row, s.r.Intn(2))
			default:
				row = append(row, s.r.Intn(9)-3)
			}
		}
		if s.r.Intn(200) == 0 {
			row = append(row, 0)
		}
		in = append(in, row)
	}
	return in
}

// pasts is how many operators of the past there are.
func pasts(l []api.Stream) int {
	count := 0
	for _, x := range l {
		for _, n := range x.E {
			if past.Has(api.Expr{n}) {
				count++
			}
		}
	}
	return count
}

// What streams become is what the chapter says, word by word.
func TestManyFrees(t *testing.T) {
	s := &somes{r: rand.New(rand.NewSource(13)), calls: true}
	seen := map[int]int{}
	for range 20000 {
		l := s.streams()
		before := fmt.Sprint(l)
		got, f := past.Free(l)
		want := (&said{}).all(l)
		if f != api.OK || !slices.Equal(lines(got), want) {
			t.Fatalf("P13.2: %v: %v, %d, not %s", l, lines(got), f, strings.Join(want, "\n"))
		}
		again, f := past.Free(l)
		if f != api.OK || !slices.EqualFunc(got, again, same) || fmt.Sprint(l) != before {
			t.Fatalf("R6: %v: %v, %v", l, got, again)
		}
		alone(t, got)
		seen[min(pasts(l), 9)]++
	}
	for k := range 10 {
		if seen[k] < 50 {
			t.Errorf("%d operators: seen %d times", k, seen[k])
		}
	}
}

// What is told of streams stays what it was, and how it ends.
func TestManyRuns(t *testing.T) {
	s := &somes{r: rand.New(rand.NewSource(131))}
	seen := map[api.Errno]int{}
	values, long := map[int]int{}, 0
	for range 40000 {
		l := s.streams()
		in := s.frames(l)
		got, f := past.Free(l)
		if f != api.OK {
			t.Fatalf("P13.2: %v: %d", l, f)
		}
		tells(t, l, got, in)
		memories := 0
		for i, x := range got {
			if past.Has(x.E) || len(x.E) > 0 && !tree.May(x.E) {
				t.Fatalf("P13.3: %v: %v", l, x)
			}
			if i >= len(l) && !strings.Contains(x.Name, ".") {
				memories++
			}
		}
		if memories != pasts(l) {
			t.Fatalf("P13.3: %v: %d memories", l, memories)
		}
		rows, f := flat.Run(got, in)
		seen[f]++
		if len(rows) > 6 && memories > 0 {
			long++
		}
		for _, row := range rows {
			for i, x := range got[len(l):] {
				if !strings.Contains(x.Name, ".") {
					values[min(row[len(l)+i], 2)]++
				}
			}
		}
	}
	for f, least := range map[api.Errno]int{api.OK: 10000, api.ErrCycle: 2000, api.ErrFrame: 200, api.ErrOver: 100, api.ErrZero: 500} {
		if seen[f] < least {
			t.Errorf("%d: seen %d times", f, seen[f])
		}
	}
	if values[0] < 20000 || values[1] < 20000 || values[2] < 5000 || long < 5000 {
		t.Errorf("%v, %d long ones", values, long)
	}
}

// tells tells that streams tell the same as they did ahead of what they became.
func tells(t *testing.T, l []api.Stream, free []api.Stream, in [][]int) {
	t.Helper()
	want, wantFault := flat.Run(l, in)
	rows, fault := flat.Run(free, in)
	if fault != wantFault || len(rows) != len(want) {
		t.Fatalf("P13.3: %v, %v: %d instants, %d, not %d, %d", l, in, len(rows), fault, len(want), wantFault)
	}
	for i, row := range rows {
		if !slices.Equal(row[:len(l)], want[i]) {
			t.Fatalf("P13.3: %v, %v: at %d %v, not %v", l, in, i, row[:len(l)], want[i])
		}
	}
}

// Long pasts, and each operator of them over all short inputs.
func TestLongRuns(t *testing.T) {
	for _, e := range []string{"once a", "hist a", "prev a", "a since b", "b since a", "within 0 a", "within 1 a", "within 2 a", "within 3 a", "prev prev a", "within 2 prev a", "(once a) since prev b", "prev (a since b)", "x0 since prev x0", "hist (a => once b)", "0 -> pre (if prev a then within 1 b else x0)", "pre once a", "1 div (1 - within 1 a)", "once (1 div b = 1)", "prev (1 mod b = 0)", "pre (1 div hist b)"} {
		l := streams(t, "x bool = "+e, "a bool", "x0 bool = a xor b", "b bool")
		free, _ := past.Free(l)
		for bits := range 1 << 12 {
			var in [][]int
			for i := range 6 {
				in = append(in, []int{bits >> (2 * i) & 1, bits >> (2*i + 1) & 1})
			}
			tells(t, l, free, in)
		}
	}
	l := streams(t, "a bool", "x bool = within 1000 a", "y bool = within 999 x")
	free, _ := past.Free(l)
	in := make([][]int, 4000)
	for i := range in {
		in[i] = []int{0}
	}
	in[7], in[900], in[3990] = []int{1}, []int{1}, []int{1}
	tells(t, l, free, in)
	rows, _ := flat.Run(free, in)
	if rows[1900][1] != 1 || rows[1901][1] != 0 || rows[2899][2] != 1 || rows[2900][2] != 0 || rows[3999][2] != 1 || rows[6][1] != 0 {
		t.Errorf("P13.3: within 1000")
	}
}

// Nothing that is handed in makes a call panic.
func TestAnything(t *testing.T) {
	r := rand.New(rand.NewSource(14))
	some := func() int {
		return []int{-1, -1, -1, r.Intn(4), r.Intn(9) - 2, math.MinInt, math.MaxInt}[r.Intn(7)]
	}
	seen := map[api.Errno]int{}
	for range 100000 {
		var l []api.Stream
		for range r.Intn(4) {
			var e api.Expr
			for range r.Intn(4) {
				e = append(e, api.Node{Op: r.Intn(31) - 1, A: some(), B: some(), C: some(), N: r.Intn(3) * some(), Name: []string{"", "a", "@1"}[r.Intn(3)]})
			}
			past.Has(e)
			l = append(l, api.Stream{Name: []string{"", "a", "b", "@"}[r.Intn(4)], Type: some(), E: e})
		}
		want := api.OK
		switch {
		case slices.ContainsFunc(l, func(x api.Stream) bool { return len(x.E) > 0 && !tree.May(x.E) }):
			want = api.ErrArg
		case slices.ContainsFunc(l, func(x api.Stream) bool { return x.Name == "@" }):
			want = api.ErrTwice
		}
		if got, f := past.Free(l); f != want || f != api.OK && got != nil {
			t.Fatalf("P13.2: %v: %v, %d", l, got, f)
		}
		seen[want]++
	}
	if seen[api.OK] < 1000 || seen[api.ErrTwice] < 1000 || seen[api.ErrArg] < 1000 {
		t.Error(seen)
	}
}
