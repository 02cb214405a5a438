package frame_test

import (
	"math"
	"math/big"
	"math/rand"
	"regexp"
	"slices"
	"strings"
	"testing"

	"bailment/api"
	"bailment/frame"
)

var (
	digits = regexp.MustCompile(`^(0|-?[1-9][0-9]*)$`)
	pieces = regexp.MustCompile(`(?s)^ *([^ ]+)`)
)

// said is what the chapter says of a text, told in another way: by patterns,
// and numbers of any size.
func said(types []int, s string) ([][]int, api.Fault) {
	if len(types) > 200 || len(s) > 100000 {
		return nil, api.Fault{Code: api.ErrMany, At: -1}
	}
	lines := strings.Split(s, "\n")
	if lines[len(lines)-1] == "" {
		lines = lines[:len(lines)-1]
	}
	var rows [][]int
	for at, line := range lines {
		var row []int
		for {
			found := pieces.FindStringSubmatch(line)
			if found == nil {
				break
			}
			line = line[len(found[0]):]
			n, is := meant(types, len(row), found[1])
			if !is {
				return rows, api.Fault{Code: api.ErrFrame, At: at}
			}
			row = append(row, n)
		}
		if len(row) != len(types) {
			return rows, api.Fault{Code: api.ErrFrame, At: at}
		}
		rows = append(rows, row)
	}
	return rows, api.Fault{}
}

func meant(types []int, i int, word string) (int, bool) {
	if i >= len(types) {
		return 0, false
	}
	truth := slices.Index([]string{"false", "true"}, word)
	if types[i] == api.Bool {
		return truth, truth >= 0
	}
	if types[i] != api.Int || !digits.MatchString(word) {
		return 0, false
	}
	n, _ := new(big.Int).SetString(word, 10)
	if n.Cmp(big.NewInt(math.MaxInt32)) > 0 || n.Cmp(big.NewInt(math.MinInt32)) < 0 {
		return 0, false
	}
	return int(n.Int64()), true
}

func kinds(r *rand.Rand, others int) []int {
	var l []int
	for range r.Intn(5) {
		kind := 1 + r.Intn(2)
		if r.Intn(others) == 0 {
			kind = []int{0, 3, -1}[r.Intn(3)]
		}
		l = append(l, kind)
	}
	return l
}

// some is a text, most of whose lines are such as may be.
func some(r *rand.Rand, types []int) string {
	var b strings.Builder
	one := func(l ...string) string { return l[r.Intn(len(l))] }
	for range r.Intn(6) {
		b.WriteString(one("", "", " ", "  "))
		for i, kind := range types {
			if i > 0 {
				b.WriteString(one(" ", " ", "   "))
			}
			switch {
			case r.Intn(40) == 0:
				b.WriteString(one("", "-", "-0", "01", "+1", "x", "true", "false", "0", "2147483648", "-2147483649", "1 1", "\t", "tru", "\xff", "\r"))
			case kind == api.Bool:
				b.WriteString(one("true", "false"))
			default:
				b.WriteString(one("0", "1", "-1", "20", "-407", "2147483647", "-2147483648"))
			}
		}
		b.WriteString(one("", "", "", " ") + one("\n", "\n", "\n", "\n", "\n", "\n", "\n", "\n", "", "\r\n"))
	}
	return b.String()
}

func TestManyTexts(t *testing.T) {
	r := rand.New(rand.NewSource(231))
	seen := map[api.Errno]int{}
	for range 60000 {
		types := kinds(r, 60)
		s := some(r, types)
		rows, f := said(types, s)
		reads(t, types, s, rows, f)
		if len(rows) > 1 {
			seen[f.Code]++
		}
	}
	if seen[api.OK] < 10000 || seen[api.ErrFrame] < 5000 {
		t.Error(seen)
	}
}

// Any bytes are read, or have a fault.
func TestAnyBytes(t *testing.T) {
	const bytes = "0123-+ \n\n  truefals\t\r\x00\xc2\xa0\xff"
	r := rand.New(rand.NewSource(232))
	for range 60000 {
		types := kinds(r, 10)
		s := make([]byte, r.Intn(12))
		for i := range s {
			s[i] = bytes[r.Intn(len(bytes))]
		}
		rows, f := said(types, string(s))
		reads(t, types, string(s), rows, f)
	}
}

// What is written is read; what can't be written is none of what is read.
func TestWritten(t *testing.T) {
	r := rand.New(rand.NewSource(233))
	seen := map[bool]int{}
	for range 60000 {
		types := kinds(r, 60)
		var rows [][]int
		bad := slices.ContainsFunc(types, func(kind int) bool { return kind < 1 || kind > 2 })
		for range r.Intn(5) {
			row := []int{}
			for _, kind := range types {
				n := r.Intn(2)
				if kind == api.Int {
					n = []int{0, 1, 2, -1, 90, -407, math.MaxInt32, math.MinInt32}[r.Intn(8)]
				}
				if r.Intn(60) == 0 {
					n = []int{2, -1, 1 << 31, -1<<31 - 1, math.MaxInt}[r.Intn(5)]
				}
				bad = bad || kind == api.Bool && n != 0 && n != 1 || n < math.MinInt32 || n > math.MaxInt32
				row = append(row, n)
			}
			if r.Intn(60) == 0 {
				row = append(row, 0)
				bad = true
			}
			rows = append(rows, row)
		}
		seen[bad]++
		if bad {
			writesNot(t, types, rows...)
			continue
		}
		s, f := frame.Write(types, rows)
		if f != api.OK || strings.Count(s, "\n") != len(rows) {
			t.Fatalf("P23.3: %v, %v: %q, %d", types, rows, s, f)
		}
		ok(t, types, s, rows...)
		if again, _ := frame.Write(types, rows); again != s {
			t.Fatalf("R6: %v, %v: %q, %q", types, rows, s, again)
		}
	}
	if seen[true] < 3000 || seen[false] < 10000 {
		t.Error(seen)
	}
}

// What is read, and written, is what a blank between any two words makes of it.
func TestReadAndWritten(t *testing.T) {
	r := rand.New(rand.NewSource(234))
	seen := 0
	for range 30000 {
		types := kinds(r, 60)
		s := some(r, types)
		rows, f := frame.Read(types, s)
		if f.Code != api.OK || len(rows) == 0 {
			continue
		}
		seen++
		var want strings.Builder
		for line := range strings.SplitSeq(strings.TrimSuffix(s, "\n"), "\n") {
			want.WriteString(strings.Join(strings.Fields(line), " ") + "\n")
		}
		writes(t, types, want.String(), rows...)
	}
	if seen < 5000 {
		t.Error(seen)
	}
}
