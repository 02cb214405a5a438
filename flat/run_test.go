package flat_test

import (
	"fmt"
	"math"
	"slices"
	"strconv"
	"strings"
	"testing"
	"time"

	"bailment/api"
	"bailment/flat"
	"bailment/tree"
)

// runs tells what rows there are, and the error behind them.
func runs(t *testing.T, what string, l []api.Stream, in [][]int, want [][]int, fault api.Errno) {
	t.Helper()
	before := fmt.Sprint(l, in)
	for range 2 {
		got, f := flat.Run(l, in)
		if f != fault || !slices.EqualFunc(got, want, slices.Equal) {
			t.Errorf("P12.3: %s: %s, %d, not %s, %d", what, short(got), f, short(want), fault)
			return
		}
		for i := range got {
			for k := range got[i] {
				got[i][k]++ // nobody else's memory
			}
		}
	}
	if fmt.Sprint(l, in) != before {
		t.Errorf("R5: %s is changed", short(before))
	}
}

// column is the values of one stream, written with blanks between them; an
// error's name stands at the end.
func column(t *testing.T, l []api.Stream, in [][]int, name string) string {
	t.Helper()
	rows, f := flat.Run(l, in)
	var out []string
	for _, row := range rows {
		if len(row) != len(l) {
			t.Fatalf("P12.3: %v: %v", l, row)
		}
		out = append(out, strconv.Itoa(row[flat.Find(l, name)]))
	}
	if f != api.OK {
		out = append(out, map[api.Errno]string{api.ErrArg: "arg", api.ErrOver: "over", api.ErrZero: "zero", api.ErrCycle: "cycle", api.ErrFrame: "frame"}[f])
	}
	return strings.Join(out, " ")
}

// given are instants of a: int, b: bool, d: bool.
var given = [][]int{{3, 0, 0}, {1, 1, 0}, {4, 0, 1}, {0, 0, 1}, {5, 1, 1}, {-2, 0, 0}, {7, 0, 1}}

// Each operator, at instants.
func TestOperators(t *testing.T) {
	inputs := streams(t, "a int", "b bool", "d bool")
	for e, want := range map[string]string{
		"a": "3 1 4 0 5 -2 7", "b": "0 1 0 0 1 0 0", "7": "7 7 7 7 7 7 7", "0": "0 0 0 0 0 0 0", "2147483647": "2147483647 2147483647 2147483647 2147483647 2147483647 2147483647 2147483647", "true": "1 1 1 1 1 1 1", "false": "0 0 0 0 0 0 0",
		"not b": "1 0 1 1 0 1 1", "-a": "-3 -1 -4 0 -5 2 -7", "b and d": "0 0 0 0 1 0 0", "b or d": "0 1 1 1 1 0 1", "b xor d": "0 1 1 1 0 0 1", "b => d": "1 0 1 1 1 1 1",
		"a = 4": "0 0 1 0 0 0 0", "a <> 4": "1 1 0 1 1 1 1", "a < 4": "1 1 0 1 0 1 0", "a <= 4": "1 1 1 1 0 1 0", "a > 4": "0 0 0 0 1 0 1", "a >= 4": "0 0 1 0 1 0 1",
		"a + 1": "4 2 5 1 6 -1 8", "1 - a": "-2 0 -3 1 -4 3 -6", "a * a": "9 1 16 0 25 4 49", "a div 2": "1 0 2 0 2 -1 3", "a mod 3": "0 1 1 0 2 -2 1", "if b then a else 9": "9 1 9 9 5 9 9",
		// The past.
		"a -> 9": "3 9 9 9 9 9 9", "9 -> a": "9 1 4 0 5 -2 7", "b -> not b": "0 0 1 1 0 1 1", "1 -> (2 -> 3)": "1 3 3 3 3 3 3", "(1 -> 2) -> 3": "1 3 3 3 3 3 3",
		"pre a": "0 3 1 4 0 5 -2", "pre b": "0 0 1 0 0 1 0", "pre pre a": "0 0 3 1 4 0 5", "pre pre pre a": "0 0 0 3 1 4 0", "9 -> pre a": "9 3 1 4 0 5 -2", "9 -> pre (8 -> pre a)": "9 8 3 1 4 0 5", "pre (9 -> a)": "0 9 1 4 0 5 -2", "pre 7": "0 7 7 7 7 7 7", "pre a + a": "3 4 5 4 5 3 5", "pre (a + a)": "0 6 2 8 0 10 -4",
		"once b": "0 1 1 1 1 1 1", "once d": "0 0 1 1 1 1 1", "once a": "1 1 1 1 1 1 1", "once (a > 4)": "0 0 0 0 1 1 1", "once (a < -2)": "0 0 0 0 0 0 0", "once (a = 3)": "1 1 1 1 1 1 1", "once false": "0 0 0 0 0 0 0",
		"hist b": "0 0 0 0 0 0 0", "hist (a < 5)": "1 1 1 1 0 0 0", "hist a": "1 1 1 0 0 0 0", "hist true": "1 1 1 1 1 1 1", "hist (a <> 3)": "0 0 0 0 0 0 0", "hist (a <> 7)": "1 1 1 1 1 1 0",
		"prev b": "0 0 1 0 0 1 0", "prev a": "0 1 1 1 0 1 1", "prev prev b": "0 0 0 1 0 0 1", "prev not b": "0 1 0 1 1 0 1", "prev true": "0 1 1 1 1 1 1",
		"within 0 b": "0 1 0 0 1 0 0", "within 1 b": "0 1 1 0 1 1 0", "within 2 b": "0 1 1 1 1 1 1", "within 1000 b": "0 1 1 1 1 1 1", "within 1 (a = 3)": "1 1 0 0 0 0 0", "within 3 (a = 3)": "1 1 1 1 0 0 0", "within 5 (a = 3)": "1 1 1 1 1 1 0", "within 6 (a = 3)": "1 1 1 1 1 1 1", "within 1 a": "1 1 1 1 1 1 1", "within 0 a": "1 1 1 0 1 1 1", "within 3 false": "0 0 0 0 0 0 0",
		"d since b": "0 1 1 1 1 0 0", "b since d": "0 0 1 1 1 0 1", "true since b": "0 1 1 1 1 1 1", "false since b": "0 1 0 0 1 0 0", "d since false": "0 0 0 0 0 0 0", "d since true": "1 1 1 1 1 1 1", "a since (a = 3)": "1 1 1 0 0 0 0", "(a > 0) since b": "0 1 1 0 1 0 0", "(a < 5) since (a = 3)": "1 1 1 1 0 0 0", "b since a": "1 1 1 0 1 1 1",
		// The past of the past, and of what is made of it.
		"once prev b": "0 0 1 1 1 1 1", "prev once b": "0 0 1 1 1 1 1", "hist once b": "0 0 0 0 0 0 0", "once hist (a < 4)": "1 1 1 1 1 1 1", "pre once d": "0 0 0 1 1 1 1", "within 1 prev b": "0 0 1 1 0 1 1", "prev within 1 b": "0 0 1 1 0 1 1", "prev (d since b)": "0 0 1 1 1 1 0", "(prev d) since b": "0 1 0 0 1 1 0", "pre (pre a + 1)": "0 1 4 2 5 1 6", "pre (x + 1)": "0 1 2 3 4 5 6", "0 -> pre x + a": "0 1 5 5 10 8 15", "0 -> pre (x + a)": "0 3 4 8 8 13 11", "if b then 0 -> pre x + 1 else 9": "9 10 9 9 10 9 9", "if b then a else 0 -> pre x": "0 1 1 1 5 5 5", "pre (pre x + a)": "0 3 1 7 1 12 -1", "prev not x": "0 1 0 1 0 1 0", "(0 -> pre a) -> pre pre a": "0 0 3 1 4 0 5",
	} {
		for _, kind := range []string{"x int = ", "x bool = "} {
			if got := column(t, slices.Concat(inputs, streams(t, kind+e)), given, "x"); got != want {
				t.Errorf("P12.3: %q: %s, not %s", e, got, want)
			}
		}
	}
}

func TestErrors(t *testing.T) {
	inputs := streams(t, "a int", "b bool", "d bool")
	for e, want := range map[string]string{
		"1 div a": "0 1 0 zero", "1 mod a": "1 0 1 zero", "2147483647 + a": "over", "2147483646 + (a - 3)": "2147483646 2147483644 2147483647 2147483643 over", "-2147483647 - a + 2": "over", "1000000000 * a": "over", "1000000000 * (a - 2)": "1000000000 -1000000000 2000000000 -2000000000 over", "-(-2147483647 - 1)": "over", "(-2147483647 - 1) div (a - 4)": "over", "(-2147483647 - 1) mod (a - 4)": "0 -2 zero", "(-2147483647 - 1) div (a - 2)": "-2147483648 over",
		// Whatever is not taken is reckoned, too.
		"if false then 1 div 0 else a": "zero", "if b then 1 else 1 div (a - 1)": "0 zero", "0 -> 1 div (a - 3)": "zero", "1 div (a - 1) -> 0": "0 zero", "false and 1 div (a - 4) > 0": "0 0 zero", "true or 1 div (a - 4) > 0": "1 1 zero", "0 * (1 div a)": "0 0 0 zero",
		"true since (1 div a > 5)": "0 0 0 zero", "once (1 div a = 0)": "1 1 1 zero", "within 3 (1 div a = 7)": "0 0 0 zero", "hist (1 div a = 0)": "1 0 0 zero", "(1 div a > 5) since true": "1 1 1 zero",
		// So is what only the next instant needs.
		"pre (1 div a)": "0 0 1 zero", "1 -> pre (1 div (a - 1))": "1 zero", "prev (1 mod a = 0)": "0 0 1 zero", "pre pre (1 div (a - 3))": "zero", "pre (1 div x)": "zero", "1 -> pre (x * 2000)": "1 2000 over", "pre (pre (2147483647 + a - 3))": "over",
		// An error's value is 0: so it may make another one.
		"1 div (1 div a)": "zero", "(a div (a - 1)) * 5": "5 zero",
	} {
		if got := column(t, slices.Concat(inputs, streams(t, "x int = "+e)), given, "x"); got != want {
			t.Errorf("P12.3: %q: %s, not %s", e, got, want)
		}
	}
	// The least one of an instant's errors, wherever they are; the first instant of all.
	for _, c := range []struct {
		x, y, want string
	}{
		{"1 div (a - 3)", "2147483647 + a", "over"}, {"2147483647 + a", "1 div (a - 3)", "over"}, {"1 div (a - 3)", "1 mod (a - 3)", "zero"}, {"2147483647 + a", "2147483647 * a", "over"},
		{"1 div (a - 1)", "2147483647 + a", "over"}, {"1 div (a - 3)", "2147483643 + a", "zero"}, {"1 div (a - 1)", "2147483644 + a", "0 zero"}, {"1 div (a - 4)", "2147483644 + a", "-1 0 over"}, {"2147483644 + a", "1 div (a - 4)", "2147483647 2147483645 over"},
		{"1 div (2147483647 + a)", "1", "over"}, {"pre (1 div (2147483647 + a))", "1", "over"}, {"pre (2147483647 + a)", "1 div (a - 3)", "over"}, {"1 div (a - 3)", "pre (2147483647 + a)", "over"}, {"pre (1 div (a - 3))", "2147483647 + a", "over"}, {"2147483647 + a", "pre (1 div (a - 3))", "over"}, {"pre (2147483647 + a)", "pre (1 div (a - 3))", "over"}, {"pre (1 div (a - 3))", "pre (2147483647 + a)", "over"}, {"pre (1 div (a - 3)) + (2147483647 + a)", "1", "over"}, {"1 div (y - 3)", "a", "zero"}, {"1 div (1 + y)", "2147483647 + a", "over"},
	} {
		got := column(t, slices.Concat(inputs, streams(t, "x int = "+c.x, "y int = "+c.y)), given, "x")
		if got != c.want {
			t.Errorf("P12.3: %q, %q: %s, not %s", c.x, c.y, got, c.want)
		}
	}
}

// Streams stand in any order, and among the inputs.
func TestOrderOfStreams(t *testing.T) {
	l := streams(t, "x int = y + 1", "a int", "y int = z * 2", "b bool", "z int = if b then a else 0 -> pre x")
	in := [][]int{{5, 0}, {6, 1}, {7, 0}, {8, 1}}
	runs(t, "order", l, in, [][]int{{1, 5, 0, 0, 0}, {13, 6, 12, 1, 6}, {27, 7, 26, 0, 13}, {17, 8, 16, 1, 8}}, api.OK)
	l = streams(t, "x int = 0 -> pre y", "y int = 1 -> pre x")
	runs(t, "each other", l, [][]int{{}, nil, {}, {}}, [][]int{{0, 1}, {1, 0}, {0, 1}, {1, 0}}, api.OK)
	l = streams(t, "x int = pre (y + z)", "y int = z + 1", "z int = 0 -> pre z + 1")
	runs(t, "later ones", l, make([][]int, 4), [][]int{{0, 1, 0}, {1, 2, 1}, {3, 3, 2}, {5, 4, 3}}, api.OK)
	// Any names will do, and any types.
	odd := []api.Stream{{Name: "", Type: 0}, {Name: "if", Type: -5, E: op(api.OpSub, v("#0.x"), number(1))}, {Name: "#0.x", Type: 3}, {Name: "A B", Type: math.MaxInt, E: v("if")}}
	runs(t, "odd names", odd, [][]int{{5, 6}, {-7, 2147483647}}, [][]int{{5, 5, 6, 5}, {-7, 2147483646, 2147483647, 2147483646}}, api.OK)
	runs(t, "nothing", nil, nil, nil, api.OK)
	runs(t, "no stream", nil, [][]int{{}, nil, {}}, [][]int{{}, {}, {}}, api.OK)
	runs(t, "no instant", odd, nil, nil, api.OK)
	runs(t, "no instant", odd, [][]int{}, nil, api.OK)
	turned := api.Expr{v("b")[0], v("a")[0], {Op: api.OpSub, A: 1, B: 0, C: -1}}
	runs(t, "turned", append(streams(t, "a int", "b int"), api.Stream{Name: "x", E: turned}), [][]int{{7, 2}}, [][]int{{7, 2, 5}}, api.OK)
	apart := api.Expr{v("b")[0], v("a")[0], {Op: api.OpPre, A: 0, B: -1, C: -1}, {Op: api.OpSub, A: 1, B: 2, C: -1}}
	runs(t, "apart", append(streams(t, "a int", "b int"), api.Stream{Name: "x", E: apart}), [][]int{{7, 2}, {7, 3}}, [][]int{{7, 2, 7}, {7, 3, 5}}, api.OK)
}

func TestFrames(t *testing.T) {
	l := streams(t, "a int", "x int = a + 1", "b bool", "y int = 10 div (a - 1)")
	good := [][]int{{3, 1}, {2, 0}}
	rows := [][]int{{3, 4, 1, 5}, {2, 3, 0, 10}}
	runs(t, "good", l, good, rows, api.OK)
	for _, bad := range [][]int{nil, {}, {3}, {3, 1, 1}, {3, 1, 0, 0}, {3, 2}, {3, -1}, {3, 1 << 31}, {3, math.MinInt}, {1 << 31, 1}, {-1<<31 - 1, 1}, {math.MaxInt, 0}, {math.MinInt, 0}, {1<<32 + 3, 1}, {3, 1<<32 + 1}} {
		what := fmt.Sprint(bad)
		runs(t, what, l, [][]int{bad}, nil, api.ErrFrame)
		runs(t, what, l, [][]int{bad, good[0]}, nil, api.ErrFrame)
		runs(t, what, l, [][]int{good[0], bad, good[1]}, rows[:1], api.ErrFrame)
		runs(t, what, l, append(slices.Clone(good), bad), rows, api.ErrFrame)
		runs(t, what, l, [][]int{good[0], good[1], bad, bad, {1, 1}}, rows, api.ErrFrame)
		// Behind a fault nothing is told, of frames neither.
		runs(t, what, l, [][]int{good[0], {1, 1}, bad}, rows[:1], api.ErrZero)
	}
	// An instant's frame is asked ahead of what is reckoned of it.
	runs(t, "both", l, [][]int{good[0], {1, 2}}, rows[:1], api.ErrFrame)
	runs(t, "both", l, [][]int{{2147483647, 2}}, nil, api.ErrFrame)
	runs(t, "zero", l, [][]int{{1, 1}}, nil, api.ErrZero)
	runs(t, "over", l, [][]int{{2147483647, 1}}, nil, api.ErrOver)
	edge := streams(t, "a int", "x int = a")
	runs(t, "edges", edge, [][]int{{math.MaxInt32}, {math.MinInt32}}, [][]int{{math.MaxInt32, math.MaxInt32}, {math.MinInt32, math.MinInt32}}, api.OK)
	// A stream of type Bool that is no input, and an input of another type, may be any number.
	runs(t, "types", []api.Stream{{Name: "a", Type: 0}, {Name: "x", Type: api.Bool, E: v("a")}, {Name: "c", Type: 3}}, [][]int{{5, 6}}, [][]int{{5, 5, 6}}, api.OK)
	runs(t, "no inputs", streams(t, "x int = 1"), [][]int{{}, {0}}, [][]int{{1}}, api.ErrFrame)
	runs(t, "no streams", nil, [][]int{{}, {0}, {}}, [][]int{{}}, api.ErrFrame)
}

func TestRunArguments(t *testing.T) {
	a, in := v("a")[0], [][]int{{1}, {2}}
	is := func(what string, fault api.Errno, l ...api.Stream) {
		t.Helper()
		for _, in := range [][][]int{in, nil, {{1, 2, 3}}} {
			runs(t, what, l, in, nil, fault)
		}
	}
	of := func(e api.Expr) []api.Stream { return append(streams(t, "a int"), api.Stream{Name: "x", E: e}) }
	for i, e := range []api.Expr{
		{{}}, {a, a}, {{Op: api.OpVar, A: -1, B: -1, C: -1}}, {{Op: api.OpVar, Name: "a"}}, {a, {Op: api.OpNot, A: 0}}, {{Op: 29, A: -1, B: -1, C: -1}}, {{Op: 0, A: -1, B: -1, C: -1}}, {a, {Op: api.OpArgs, A: 0, B: -1, C: -1}}, {a, {Op: api.OpAdd, A: 0, B: 0, C: -1}}, {a, {Op: api.OpNot, A: 5, B: -1, C: -1}},
		nots(40, v("a")), append(sum(2500, func(int) api.Expr { return v("a") }), a, api.Node{Op: api.OpAdd, A: 4998, B: 4999, C: -1}), tree.Join(api.OpWithin, 1001, "", v("a")), number(1 << 31), number(-1), tree.Join(api.OpBool, 2, ""),
		call("a"), call("f", v("a")), op(api.OpAdd, v("a"), call("x")), op(api.OpPre, call("a", v("a"), v("a"))), v("z"), op(api.OpPre, v("z")), op(api.OpAdd, v("a"), v("")), op(api.OpOnce, v("a "))} {
		is("case "+strconv.Itoa(i), api.ErrArg, of(e)...)
		is("case "+strconv.Itoa(i), api.ErrArg, append(streams(t, "y int = y"), of(e)...)...)
	}
	runs(t, "deep", of(nots(39, v("a"))), [][]int{{1}, {0}}, [][]int{{1, 0}, {0, 1}}, api.OK)
	runs(t, "long", of(sum(2500, func(int) api.Expr { return v("a") })), in, [][]int{{1, 2500}, {2, 5000}}, api.OK)
	is("twice", api.ErrArg, streams(t, "a int", "a int")...)
	is("twice", api.ErrArg, streams(t, "a int", "b int", "a bool = b")...)
	is("twice", api.ErrArg, streams(t, "x int = 1", "y int = x", "x int = 1")...)
	is("twice", api.ErrArg, api.Stream{}, api.Stream{})
	is("round", api.ErrCycle, streams(t, "x int = x")...)
	is("round", api.ErrCycle, streams(t, "a int", "x int = y", "y int = a + z", "z int = 0 -> x")...)
	is("round", api.ErrCycle, streams(t, "a int", "x int = pre x + x")...)
	is("round", api.ErrCycle, streams(t, "a int", "y int = a", "x int = 0 * x")...)
	var l []api.Stream
	for i := range 4001 {
		l = append(l, api.Stream{Name: strconv.Itoa(i), E: number(i)})
	}
	is("many", api.ErrArg, l...)
	is("many, round", api.ErrArg, append(slices.Clone(l[1:]), streams(t, "x int = x")...)...)
	rows, f := flat.Run(l[:4000], make([][]int, 2))
	if f != api.OK || len(rows) != 2 || len(rows[1]) != 4000 || rows[1][3999] != 3999 {
		t.Errorf("P12.3: 4000 streams: %d, %d", len(rows), f)
	}
}

// Streams that hang on each other, up to all that there may be.
func TestLongRuns(t *testing.T) {
	began := time.Now()
	l := streams(t, "a int")
	for i := range 3999 {
		of := "s" + strconv.Itoa(i+1)
		if i == 3998 {
			of = "a"
		}
		l = append(l, api.Stream{Name: "s" + strconv.Itoa(i), Type: api.Int, E: op(api.OpAdd, v(of), number(1))})
	}
	rows, f := flat.Run(l, [][]int{{0}, {1}, {2147479648}, {2147479649}})
	if f != api.ErrOver || len(rows) != 3 || rows[0][1] != 3999 || rows[1][1] != 4000 || rows[2][1] != math.MaxInt32 || rows[2][3999] != 2147479649 {
		t.Errorf("P12.3: %d rows, %d", len(rows), f)
	}
	// Delays of delays; and within, up to its last instant.
	l = streams(t, "a bool", "x bool = within 1000 a", "n int = 0 -> pre n + 1")
	for i := range 1000 {
		of := "a"
		if i > 0 {
			of = "p" + strconv.Itoa(i-1)
		}
		l = append(l, api.Stream{Name: "p" + strconv.Itoa(i), E: op(api.OpPre, v(of))})
	}
	in := make([][]int, 3000)
	for i := range in {
		in[i] = []int{0}
	}
	in[100] = []int{1}
	rows, f = flat.Run(l, in)
	if f != api.OK || len(rows) != 3000 {
		t.Fatalf("P12.3: %d rows, %d", len(rows), f)
	}
	for i, row := range rows {
		if row[2] != i || (row[1] == 1) != (i >= 100 && i <= 1100) || (row[1002] == 1) != (i == 1100) || (row[3] == 1) != (i == 101) {
			t.Fatalf("P12.3: at %d: %v", i, row[:4])
		}
	}
	if took := time.Since(began); took > time.Minute {
		t.Errorf("%v", took)
	}
}
