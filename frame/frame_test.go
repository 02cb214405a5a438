package frame_test

import (
	"fmt"
	"math"
	"slices"
	"strings"
	"testing"

	"bailment/api"
	"bailment/frame"
)

func same(a, b [][]int) bool {
	return slices.EqualFunc(a, b, func(x, y []int) bool { return slices.Equal(x, y) })
}

// spoil writes all over a list, with its spare room: nobody else may mind.
func spoil[T any](l []T, by T) {
	for i := range l[:cap(l)] {
		l[:cap(l)][i] = by
	}
}

// reads tells what is read: twice, since what is answered is nobody else's memory.
func reads(t *testing.T, types []int, s string, want [][]int, fault api.Fault) {
	t.Helper()
	before := slices.Clone(types)
	for range 2 {
		rows, f := frame.Read(types, s)
		if !same(rows, want) || f != fault {
			t.Fatalf("P23.1: %v, %.200q: %v, %v, not %v, %v", types, s, rows, f, want, fault)
		}
		for i, row := range rows {
			if !slices.Equal(row, want[i]) {
				t.Fatalf("R5: %v, %.200q: row %d has its memory from another one", types, s, i)
			}
			spoil(row, -9)
		}
		spoil(rows, nil)
	}
	if !slices.Equal(types, before) {
		t.Fatalf("R5: %v are changed", before)
	}
}

// stops tells the line that is none, behind some that are.
func stops(t *testing.T, types []int, s string, want ...[]int) {
	t.Helper()
	reads(t, types, s, want, api.Fault{Code: api.ErrFrame, At: len(want)})
}

// ok tells lines that are all read.
func ok(t *testing.T, types []int, s string, want ...[]int) {
	t.Helper()
	reads(t, types, s, want, api.Fault{})
}

var mixed = []int{api.Int, api.Bool}

func TestLines(t *testing.T) {
	ok(t, mixed, "")
	ok(t, mixed, "-3 true\n", []int{-3, 1})
	ok(t, mixed, "-3 true", []int{-3, 1})
	ok(t, mixed, "1 true\n2 false\n3 true\n", []int{1, 1}, []int{2, 0}, []int{3, 1})
	ok(t, mixed, "1 true\n2 false\n3 true", []int{1, 1}, []int{2, 0}, []int{3, 1})
	// A line's end that is the last byte ends a line, and begins none.
	stops(t, mixed, "1 true\n\n", []int{1, 1})
	stops(t, mixed, "1 true\n2 true\n\n3 true", []int{1, 1}, []int{2, 1})
	stops(t, mixed, "\n")
	stops(t, mixed, "\n1 true\n")
	stops(t, mixed, " ")
	stops(t, mixed, "1 true\n ", []int{1, 1})
	// Of no types each line is as long as it should be, if it has no words.
	for _, none := range [][]int{nil, {}} {
		ok(t, none, "")
		ok(t, none, "\n", nil)
		ok(t, none, " ", nil)
		ok(t, none, "\n\n  \n\n", nil, nil, nil, nil)
		ok(t, none, "\n\n  ", nil, nil, nil)
		stops(t, none, "\n\n0\n", nil, nil)
		stops(t, none, "\t")
		stops(t, none, "\r\n")
	}
}

func TestWords(t *testing.T) {
	ok(t, mixed, "  1    true  \n2 true \n 3 false", []int{1, 1}, []int{2, 1}, []int{3, 0})
	for _, s := range []string{"1", "true", "1 true 2", "1 true true", "1 true 1 true", "1true", "", " ", "1 1", "true 1", "true true", "1\ttrue", "1 true\t", "1 true\r", "1 true\x00", "1 true\v", "1\ftrue", "1\u00a0true", "1 \u00a0true", "1\u3000true", "1,true", "1 TRUE", "1 True", "1 tru", "1 truee", "1 t", "1 0", "1 yes", "1 not", "1 \xff", "\xff true", "1 true\xff", "\xa01 true", "x true"} {
		stops(t, mixed, "7 false\n"+s+"\n8 true", []int{7, 0})
		stops(t, mixed, "7 false\n8 true\n"+s+"\n", []int{7, 0}, []int{8, 1})
	}
	// The first line that is none is told, and none behind it is.
	stops(t, mixed, "1 true\nx true\n1 x\n", []int{1, 1})
	ok(t, []int{api.Bool, api.Bool, api.Bool}, "true false true\n", []int{1, 0, 1})
	ok(t, []int{api.Bool}, "false\ntrue\nfalse", []int{0}, []int{1}, []int{0})
	stops(t, []int{api.Int, api.Int}, "1 2\n1 true", []int{1, 2})
	stops(t, []int{api.Int, api.Int}, "false 2")
}

func TestNumbers(t *testing.T) {
	one := []int{api.Int}
	for s, n := range map[string]int{"0": 0, "1": 1, "-1": -1, "9": 9, "-9": -9, "10": 10, "100": 100, "-1020": -1020, "2147483647": math.MaxInt32, "2147483646": math.MaxInt32 - 1, "-2147483648": math.MinInt32, "-2147483647": math.MinInt32 + 1} {
		ok(t, one, s, []int{n})
		ok(t, one, "0\n"+s+"\n", []int{0}, []int{n})
	}
	for _, s := range []string{"-0", "+0", "+1", "00", "01", "-01", "-00", "0001", "-", "+", "--1", "- 1", "1-", "-1-", "1.0", "1e3", "1_0", "0x1", "0b1", "0o7", "1a", "a", "٣", "１", "2147483648", "-2147483649", "4294967296", "4294967297", "-4294967296", "9223372036854775807", "9223372036854775808", "-9223372036854775808", "18446744073709551616", "99999999999999999999", strings.Repeat("1", 99999), "-" + strings.Repeat("0", 99998), "true", "false"} {
		stops(t, one, s)
	}
}

// Words are of no other type than Bool and Int.
func TestOtherTypes(t *testing.T) {
	for _, kind := range []int{0, 3, -1, 1 << 32, 1<<32 + 1, 1<<32 + 2, math.MaxInt, math.MinInt} {
		ok(t, []int{kind}, "")
		for _, s := range []string{"0", "1", "true", "false", "x", "\n", "0\n"} {
			stops(t, []int{kind}, s)
			stops(t, []int{api.Int, kind}, "1 "+s)
			stops(t, []int{kind, api.Int}, s+" 1")
		}
	}
}

func TestTooMuchToRead(t *testing.T) {
	many := api.Fault{Code: api.ErrMany, At: -1}
	kinds := func(n int) []int { return slices.Repeat([]int{api.Int}, n) }
	line := strings.Repeat("7 ", 200)
	ok(t, kinds(200), "")
	ok(t, kinds(200), line, slices.Repeat([]int{7}, 200))
	reads(t, kinds(201), "", nil, many)
	reads(t, kinds(201), line+"7", nil, many)
	reads(t, kinds(201), "x", nil, many)
	reads(t, kinds(1000), "", nil, many)
	reads(t, slices.Repeat([]int{0}, 201), "x", nil, many)
	ok(t, nil, strings.Repeat(" ", 100000), nil)
	ok(t, nil, strings.Repeat("\n", 100000), make([][]int, 100000)...)
	reads(t, nil, strings.Repeat(" ", 100001), nil, many)
	reads(t, nil, strings.Repeat("\n", 100001), nil, many)
	reads(t, nil, "x"+strings.Repeat("\n", 100000), nil, many)
	reads(t, mixed, strings.Repeat("1 true\n", 14286), nil, many)
	ok(t, mixed, strings.Repeat("1 true\n", 14285), slices.Repeat([][]int{{1, 1}}, 14285)...)
	stops(t, mixed, strings.Repeat("1 true\n", 14285)+"x", slices.Repeat([][]int{{1, 1}}, 14285)...)
	reads(t, kinds(201), strings.Repeat("x", 100001), nil, many)
}

// writes tells what is written, and that nothing is changed by it.
func writes(t *testing.T, types []int, want string, rows ...[]int) {
	t.Helper()
	before := fmt.Sprint(types, rows)
	for range 2 {
		if s, f := frame.Write(types, rows); s != want || f != api.OK {
			t.Fatalf("P23.2: %s: %.200q, %d, not %.200q", before, s, f, want)
		}
	}
	if fmt.Sprint(types, rows) != before {
		t.Fatalf("R5: %s: are changed", before)
	}
}

func writesNot(t *testing.T, types []int, rows ...[]int) {
	t.Helper()
	if s, f := frame.Write(types, rows); s != "" || f != api.ErrArg {
		t.Errorf("P23.2: %v, %v: %.200q, %d", types, rows, s, f)
	}
}

func TestWrite(t *testing.T) {
	writes(t, nil, "")
	writes(t, mixed, "")
	writes(t, nil, "\n", nil)
	writes(t, []int{}, "\n\n\n", nil, []int{}, nil)
	writes(t, mixed, "-3 true\n", []int{-3, 1})
	writes(t, mixed, "0 true\n10 false\n-2147483648 true\n2147483647 false\n", []int{0, 1}, []int{10, 0}, []int{math.MinInt32, 1}, []int{math.MaxInt32, 0})
	writes(t, []int{api.Bool}, "false\ntrue\n", []int{0}, []int{1})
	writes(t, []int{api.Int}, "0\n1\n", []int{0}, []int{1})
	writes(t, []int{api.Bool, api.Int, api.Bool, api.Int}, "true 1 false 0\n", []int{1, 1, 0, 0})
	writes(t, slices.Repeat([]int{api.Int}, 200), strings.Repeat("7 ", 199)+"7\n", slices.Repeat([]int{7}, 200))
	// A text may be longer than one that is read.
	writes(t, nil, strings.Repeat("\n", 100001), make([][]int, 100001)...)
}

func TestWriteNot(t *testing.T) {
	good := []int{1, 1}
	for _, bad := range [][]int{nil, {}, {1}, {1, 1, 1}, {1, 2}, {1, -1}, {1, math.MaxInt}, {1, 1 << 32}, {1, 1<<32 + 1}, {1 << 31, 1}, {-1<<31 - 1, 1}, {1 << 32, 0}, {math.MaxInt, 0}, {math.MinInt, 0}} {
		writesNot(t, mixed, bad)
		writesNot(t, mixed, good, bad)
		writesNot(t, mixed, bad, good)
		writesNot(t, mixed, good, bad, good)
	}
	writesNot(t, nil, []int{1})
	writesNot(t, nil, nil, []int{0})
	// Types are asked, whether there are rows or not.
	for _, kind := range []int{0, 3, -1, 1<<32 + 1, 1<<32 + 2, math.MaxInt, math.MinInt} {
		for _, types := range [][]int{{kind}, {api.Int, kind}, {kind, api.Bool}} {
			writesNot(t, types)
			writesNot(t, types, []int{0})
			writesNot(t, types, []int{0, 0})
		}
	}
	for _, kind := range []int{0, api.Bool, api.Int} {
		types := slices.Repeat([]int{kind}, 201)
		writesNot(t, types)
		writesNot(t, types, make([]int, 201))
	}
}
