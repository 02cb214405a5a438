package image_test

import (
	"fmt"
	"math"
	"slices"
	"strings"
	"testing"
	"time"

	"bailment/api"
	"bailment/code"
	"bailment/image"
)

// short is the beginning of what a thing is as a text.
func short(x any) string {
	s := fmt.Sprint(x)
	return s[:min(len(s), 600)]
}

func copied(c code.Code) code.Code {
	c.Ins, c.Outs, c.Inputs = slices.Clone(c.Ins), slices.Clone(c.Outs), slices.Clone(c.Inputs)
	return c
}

func same(a, b code.Code) bool {
	return a.Regs == b.Regs && a.Slots == b.Slots && slices.Equal(a.Ins, b.Ins) && slices.Equal(a.Outs, b.Outs) && slices.Equal(a.Inputs, b.Inputs)
}

// isNothing tells whether code is the zero value.
func isNothing(c code.Code) bool {
	return same(c, code.Code{}) && c.Ins == nil && c.Outs == nil && c.Inputs == nil
}

// spoil writes all over a list, with its spare room: nobody else may mind.
func spoil[T any](l []T, by T) {
	for i := range l[:cap(l)] {
		l[:cap(l)][i] = by
	}
}

// writes tells what code is as bytes, and that these are read again.
func writes(t *testing.T, what string, c code.Code, want string) {
	t.Helper()
	before := copied(c)
	for range 2 {
		s, f := image.Encode(c)
		if s != want || f != api.OK {
			t.Errorf("P17.1: %s: %s: %x, %d, not %x", what, short(c), s[:min(len(s), 300)], f, want[:min(len(want), 300)])
		}
	}
	if !same(c, before) {
		t.Errorf("R5: %s: %s is changed", what, short(before))
	}
	reads(t, what, want, c)
}

func reads(t *testing.T, what string, s string, want code.Code) {
	t.Helper()
	for range 2 {
		c, f := image.Decode(s)
		if f != api.OK || !same(c, want) {
			t.Errorf("P17.2: %s: %x: %s, %d, not %s", what, s[:min(len(s), 300)], short(c), f, short(want))
		}
		if code.Check(c) != api.OK {
			t.Errorf("P17.3: %s: %s may not be", what, short(c))
		}
		spoil(c.Ins, code.Ins{Op: -9})
		spoil(c.Outs, -9)
		spoil(c.Inputs, -9)
	}
}

func writesNot(t *testing.T, what string, c code.Code) {
	t.Helper()
	for range 2 {
		if s, f := image.Encode(c); s != "" || f != api.ErrArg {
			t.Errorf("P17.1: %s: %s: %x, %d", what, short(c), s[:min(len(s), 300)], f)
		}
	}
}

func readsNot(t *testing.T, what string, s string, want api.Errno) {
	t.Helper()
	for range 2 {
		if c, f := image.Decode(s); f != want || !isNothing(c) {
			t.Errorf("P17.2: %s: %x: %s, %d, not %d", what, s[:min(len(s), 300)], short(c), f, want)
		}
	}
}

// Bytes of 0 to 127 are numbers of their own.
func bytes(l ...byte) string { return "BAIL" + string(l) }

func TestExamples(t *testing.T) {
	writes(t, "nothing", code.Code{}, bytes(0, 0, 0, 0, 0))
	writes(t, "empty", code.Code{Ins: []code.Ins{}, Outs: []int{}, Inputs: []int{}}, bytes(0, 0, 0, 0, 0))
	writes(t, "sizes", code.Code{Regs: 3, Slots: 5}, bytes(3, 5, 0, 0, 0))
	writes(t, "inputs", code.Code{Inputs: []int{api.Int, 9, 0}}, bytes(0, 0, 3, 2, 9, 0, 0, 0))
	// The example of the chapter ahead: x = a + 1, into two registers.
	add := []code.Ins{{Op: api.OpVar, D: 0, N: 0}, {Op: api.OpNum, D: 1, N: 1}, {Op: api.OpAdd, D: 1, A: 0, B: 1}}
	writes(t, "x = a + 1", code.Code{Ins: add, Regs: 2, Outs: []int{1}, Inputs: []int{api.Int}}, bytes(2, 0, 1, 2, 3, 3, 0, 0, 1, 1, 2, 14, 1, 0, 1, 1, 1))
	// c = 0 -> pre c + 1.
	count := []code.Ins{{Op: api.OpNum, D: 0, N: 0}, {Op: api.OpPre, D: 1, N: 0}, {Op: api.OpNum, D: 2, N: 1}, {Op: api.OpAdd, D: 1, A: 1, B: 2}, {Op: api.OpArrow, D: 0, A: 0, B: 1}, {Op: code.OpStore, A: 0, N: 0}}
	writes(t, "count", code.Code{Ins: count, Regs: 3, Slots: 1, Outs: []int{0, 0}}, bytes(3, 1, 0, 6, 1, 0, 0, 21, 1, 0, 1, 2, 2, 14, 1, 1, 2, 19, 0, 0, 1, 30, 0, 0, 2, 0, 0))
}

// What an instruction names is written, in order, and nothing else of it.
func TestEachOp(t *testing.T) {
	ahead := []code.Ins{{Op: api.OpNum, D: 1}, {Op: api.OpNum, D: 2}, {Op: api.OpNum, D: 3}}
	of := func(x code.Ins) code.Code {
		return code.Code{Regs: 9, Slots: 7, Inputs: make([]int, 8), Ins: append(slices.Clone(ahead), x)}
	}
	is := func(x code.Ins, l ...byte) {
		t.Helper()
		head := []byte{9, 7, 8, 0, 0, 0, 0, 0, 0, 0, 0, 4, 1, 1, 0, 1, 2, 0, 1, 3, 0, byte(x.Op)}
		writes(t, fmt.Sprint("operator ", x.Op), of(x), bytes(slices.Concat(head, l, []byte{0})...))
	}
	is(code.Ins{Op: api.OpVar, D: 5, N: 7}, 5, 14)
	is(code.Ins{Op: api.OpNum, D: 5, N: 6}, 5, 12)
	is(code.Ins{Op: api.OpNum, D: 5, N: -6}, 5, 11)
	is(code.Ins{Op: api.OpBool, D: 5, N: 1}, 5, 2)
	is(code.Ins{Op: api.OpBool, D: 8}, 8, 0)
	is(code.Ins{Op: api.OpPre, D: 5, N: 6}, 5, 12)
	is(code.Ins{Op: code.OpStore, A: 3, N: 6}, 3, 12)
	is(code.Ins{Op: api.OpArrow, D: 5, A: 3, B: 2}, 5, 3, 2)
	is(code.Ins{Op: api.OpIf, D: 5, A: 3, B: 2, C: 1}, 5, 3, 2, 1)
	for _, op := range []int{api.OpNot, api.OpNeg} {
		is(code.Ins{Op: op, D: 5, A: 3}, 5, 3)
	}
	for _, op := range []int{api.OpAnd, api.OpOr, api.OpXor, api.OpImp, api.OpEq, api.OpNe, api.OpLt, api.OpLe, api.OpAdd, api.OpSub, api.OpMul, api.OpDiv, api.OpMod} {
		is(code.Ins{Op: op, D: 5, A: 3, B: 2}, 5, 3, 2)
	}
	// Those that no code has are told behind their last byte.
	for _, op := range []int{0, api.OpSince, api.OpOnce, api.OpHist, api.OpPrev, api.OpWithin, api.OpCall, api.OpArgs, 29, 31, 127} {
		what := fmt.Sprint("operator ", op)
		writesNot(t, what, of(code.Ins{Op: op}))
		writesNot(t, what, of(code.Ins{Op: op, D: 1, A: 1, B: 1}))
		readsNot(t, what, bytes(9, 7, 0, 2, byte(op)), api.ErrForm)
		readsNot(t, what, bytes(9, 7, 0, 2, 1, 1, 2, byte(op), 1, 1, 1, 1, 0), api.ErrForm)
		readsNot(t, what, bytes(9, 7, 0, 2, 1, 1, 2, byte(op)|128), api.ErrCut)
		readsNot(t, what, bytes(9, 7, 0, 2, 1, 1, 2, byte(op)|128, 0), api.ErrForm)
		readsNot(t, what, bytes(9, 7, 0, 2, 1, 1, 2, byte(op)|128, 1, 1, 1), api.ErrForm)
	}
	for _, op := range []int{-1, math.MinInt, math.MaxInt, 1<<32 + api.OpAdd} {
		writesNot(t, fmt.Sprint("operator ", op), of(code.Ins{Op: op, D: 1, A: 1, B: 1}))
	}
}

// Numbers, by how many bytes they take.
func TestNumbers(t *testing.T) {
	for n, s := range map[int]string{
		0: "\x00", 1: "\x01", 127: "\x7f", 128: "\x80\x01", 129: "\x81\x01", 255: "\xff\x01", 256: "\x80\x02", 300: "\xac\x02", 16383: "\xff\x7f", 16384: "\x80\x80\x01", 100000: "\xa0\x8d\x06",
		1<<21 - 1: "\xff\xff\x7f", 1 << 21: "\x80\x80\x80\x01", 1<<28 - 1: "\xff\xff\xff\x7f", 1 << 28: "\x80\x80\x80\x80\x01", 1<<31 - 1: "\xff\xff\xff\xff\x07", 1 << 31: "\x80\x80\x80\x80\x08", 1<<32 - 1: "\xff\xff\xff\xff\x0f",
	} {
		what := fmt.Sprint("number ", n)
		writes(t, what, code.Code{Inputs: []int{n, 1, n}}, bytes(0, 0, 3)+s+"\x01"+s+"\x00\x00")
		if n <= 100000 {
			writes(t, what, code.Code{Regs: n}, bytes()+s+"\x00\x00\x00\x00")
			writes(t, what, code.Code{Slots: n}, bytes(0)+s+"\x00\x00\x00")
		} else {
			readsNot(t, what, bytes()+s+"\x00\x00\x00\x00", api.ErrForm)
			readsNot(t, what, bytes(0)+s+"\x00\x00\x00", api.ErrForm)
		}
		if n > 0 && n <= 100000 {
			last := code.Code{Regs: n, Slots: n, Ins: []code.Ins{{Op: api.OpNum, D: n - 1}, {Op: code.OpStore, A: n - 1, N: n - 1}}, Outs: []int{n - 1}}
			if again, f := image.Encode(last); f != api.OK {
				t.Errorf("P17.1: %s: %d", what, f)
			} else {
				reads(t, what, again, last)
			}
		}
		// A number with a sign is twice as far.
		k := n / 2
		if n%2 == 1 {
			k = -(n / 2) - 1
		}
		writes(t, fmt.Sprint("sign ", k), code.Code{Regs: 1, Ins: []code.Ins{{Op: api.OpNum, N: k}}}, bytes(1, 0, 0, 1, 1, 0)+s+"\x00")
	}
	for _, n := range []int{-1, -2, 1 << 32, 1<<32 + 1, 1 << 40, math.MinInt, math.MaxInt} {
		writesNot(t, "input", code.Code{Inputs: []int{n}})
		writesNot(t, "input", code.Code{Inputs: []int{1, 2, n}})
		writesNot(t, "input", code.Code{Inputs: []int{n, 2}})
	}
}

// Code that may not be is not written, nor read.
func TestCodeThatMayNot(t *testing.T) {
	num := code.Ins{Op: api.OpNum}
	for what, c := range map[string]code.Code{
		"registers below": {Regs: -1}, "registers above": {Regs: 100001}, "slots below": {Slots: -1}, "slots above": {Slots: 100001}, "out": {Outs: []int{0}}, "out of none": {Regs: 1, Ins: []code.Ins{num}, Outs: []int{-1}}, "register": {Ins: []code.Ins{num}}, "register below": {Regs: 1, Ins: []code.Ins{{Op: api.OpNum, D: -1}}}, "number": {Regs: 1, Ins: []code.Ins{{Op: api.OpNum, N: 1 << 31}}}, "number below": {Regs: 1, Ins: []code.Ins{{Op: api.OpNum, N: -1<<31 - 1}}}, "field": {Regs: 1, Ins: []code.Ins{{Op: api.OpNum, A: 1}}}, "input": {Regs: 1, Ins: []code.Ins{{Op: api.OpVar}}}, "slot": {Regs: 1, Ins: []code.Ins{{Op: api.OpPre}}}, "unwritten": {Regs: 2, Ins: []code.Ins{num, {Op: api.OpNot, A: 1}}}, "many": {Regs: 1, Ins: slices.Repeat([]code.Ins{num}, 200001)},
		"both": {Regs: -1, Inputs: []int{-1}},
	} {
		writesNot(t, what, c)
	}
	for what, l := range map[string][]byte{
		"out": {0, 0, 0, 0, 1, 0}, "out unwritten": {2, 0, 0, 1, 1, 0, 2, 1, 1}, "register": {0, 0, 0, 1, 1, 0, 2, 0}, "bool": {1, 0, 0, 1, 2, 0, 4, 0}, "bool below": {1, 0, 0, 1, 2, 0, 1, 0}, "input": {1, 0, 1, 2, 1, 3, 0, 2, 0}, "input below": {1, 0, 1, 2, 1, 3, 0, 1, 0}, "slot": {1, 1, 0, 1, 21, 0, 2, 0}, "slot below": {1, 1, 0, 1, 21, 0, 1, 0}, "unwritten": {2, 0, 0, 2, 1, 0, 2, 4, 1, 1, 0}, "store, pre": {1, 1, 0, 3, 1, 0, 2, 30, 0, 0, 21, 0, 0, 0}, "store twice": {1, 1, 0, 3, 1, 0, 2, 30, 0, 0, 30, 0, 0, 0},
	} {
		readsNot(t, what, bytes(l...), api.ErrForm)
		readsNot(t, what, bytes(l[:len(l)-1]...), api.ErrCut)
	}
	reads(t, "bool", bytes(1, 0, 0, 1, 2, 0, 2, 0), code.Code{Regs: 1, Ins: []code.Ins{{Op: api.OpBool, N: 1}}})
	// What may not be is told behind all bytes: a fault on the way goes ahead.
	readsNot(t, "many registers, cut", bytes(0x81|0x20, 0x8d, 6, 0, 0, 0), api.ErrCut)
	readsNot(t, "many registers, operator", bytes(0x81|0x20, 0x8d, 6, 0, 0, 1, 29), api.ErrForm)
}

func TestMarks(t *testing.T) {
	for _, s := range []string{"", "B", "BA", "BAI", "BAIL"} {
		readsNot(t, "begin", s, api.ErrCut)
	}
	for _, s := range []string{"A", "b", "\x00", "bA", "BB", "BAi", "BAX", "BAIl", "BALI", "BAIM\x00\x00\x00\x00\x00", "bail\x00\x00\x00\x00\x00", "AIL\x00\x00\x00\x00\x00", " BAIL\x00\x00\x00\x00\x00", "BA\x00\x00\x00\x00\x00", "BBAIL", "\x00\x00\x00\x00\x00", "\xff"} {
		readsNot(t, "mark", s, api.ErrForm)
	}
}

// An image with numbers of one byte, and of more, and what each byte is: the
// last one of a number, or one ahead of that.
func sample(t *testing.T) (string, code.Code) {
	t.Helper()
	c := code.Code{Regs: 1000, Slots: 300, Inputs: []int{1, 1 << 20, 0}, Outs: []int{999, 0, 500}, Ins: []code.Ins{
		{Op: api.OpVar, D: 999, N: 2}, {Op: api.OpNum, D: 0, N: -70000}, {Op: api.OpPre, D: 500, N: 299}, {Op: api.OpIf, D: 3, A: 999, B: 0, C: 500}, {Op: api.OpNeg, D: 200, A: 3}, {Op: api.OpArrow, D: 200, A: 200, B: 200}, {Op: code.OpStore, A: 200, N: 150}, {Op: code.OpStore, A: 3, N: 0}}}
	s, f := image.Encode(c)
	if f != api.OK || len(s) < 60 {
		t.Fatalf("P17.1: %x, %d", s, f)
	}
	return s, c
}

// ends are, of each number in an image, where it ends: behind its last byte.
func ends(s string) []int {
	var l []int
	for i := 4; i < len(s); i++ {
		if s[i] < 128 {
			l = append(l, i+1)
		}
	}
	return l
}

func TestCuts(t *testing.T) {
	s, c := sample(t)
	reads(t, "sample", s, c)
	for n := range len(s) {
		readsNot(t, fmt.Sprint("cut at ", n), s[:n], api.ErrCut)
	}
	for _, more := range []string{"\x00", "\x01", "\x80", "\xff", "BAIL", s, strings.Repeat("\xff", 20)} {
		readsNot(t, "more", s+more, api.ErrForm)
		readsNot(t, "more", bytes(0, 0, 0, 0, 0)+more, api.ErrForm)
	}
}

// Each number of an image, written wrong.
func TestWrongNumbers(t *testing.T) {
	s, _ := sample(t)
	from := 4
	for _, end := range ends(s) {
		head, number, tail := s[:from], s[from:end], s[end:]
		what := fmt.Sprintf("number %x at %d", number, from)
		from = end
		// Of more bytes than it needs: that is told behind all.
		long := number[:len(number)-1] + string([]byte{number[len(number)-1] | 128})
		for len(long) < 6 {
			readsNot(t, what+", long", head+long+"\x00"+tail, api.ErrForm)
			if tail != "" {
				readsNot(t, what+", long, cut", head+long+"\x00"+tail[:len(tail)-1], api.ErrCut)
			}
			readsNot(t, what+", long, cut", head+long, api.ErrCut)
			long += "\x80"
		}
		// Of more than six: told at the sixth one, wherever all ends.
		readsNot(t, what+", too long", head+long, api.ErrForm)
		readsNot(t, what+", too long", head+long+"\x80", api.ErrForm)
		readsNot(t, what+", too long", head+long+"\x00"+tail, api.ErrForm)
		// Above all numbers: told at the byte by which it is.
		for _, great := range []string{"\x80\x80\x80\x80\x10", "\xff\xff\xff\xff\x10", "\xff\xff\xff\xff\x1f", "\xff\xff\xff\xff\x7f", "\x80\x80\x80\x80\x90", "\xff\xff\xff\xff\xff", "\x80\x80\x80\x80\x80\x01", "\xff\xff\xff\xff\x8f\x01", "\x80\x80\x80\x80\x80\x81", "\x80\x80\x80\x80\x80\x7f"} {
			for n := range len(great) {
				readsNot(t, what+", great, cut", head+great[:n], api.ErrCut)
			}
			readsNot(t, what+", great", head+great, api.ErrForm)
			readsNot(t, what+", great", head+great+tail, api.ErrForm)
		}
		readsNot(t, what+", great as may be", head+"\xff\xff\xff\xff\x8f", api.ErrCut)
	}
}

// Counts that say more than there is.
func TestWrongCounts(t *testing.T) {
	for _, count := range []string{"\x05", "\xff\x7f", "\xff\xff\x03", "\xff\xff\xff\xff\x0f"} {
		for _, head := range []string{bytes(0, 0), bytes(1, 0, 0), bytes(1, 0, 0, 1, 1, 0, 2)} {
			readsNot(t, "count", head+count, api.ErrCut)
			readsNot(t, "count", head+count+"\x02", api.ErrCut)
			readsNot(t, "count", head+count+"\x02\x00", api.ErrCut)
			readsNot(t, "count", head+count+"\x80\x80\x80\x80\x80\x80", api.ErrForm)
		}
	}
	readsNot(t, "fewer", bytes(1, 0, 0, 1, 1, 0, 2, 1, 0, 2, 0), api.ErrForm)
	readsNot(t, "one more", bytes(1, 0, 0, 3, 1, 0, 2, 1, 0, 2, 0), api.ErrForm)
	readsNot(t, "one more", bytes(1, 0, 1, 1, 1, 0, 2), api.ErrForm)
}

// As much as there may be.
func TestMany(t *testing.T) {
	began := time.Now()
	c := code.Code{Regs: 100000, Slots: 100000, Inputs: slices.Repeat([]int{1<<32 - 1, api.Bool}, 100000)}
	for i := range 200000 {
		if i < 100000 {
			c.Ins = append(c.Ins, code.Ins{Op: api.OpPre, D: i, N: 99999 - i})
		} else {
			c.Ins = append(c.Ins, code.Ins{Op: code.OpStore, A: i - 100000, N: i - 100000})
		}
		c.Outs = append(c.Outs, i%100000)
	}
	s, f := image.Encode(c)
	if f != api.OK {
		t.Fatalf("P17.1: %d", f)
	}
	reads(t, "many", s, c)
	readsNot(t, "many, cut", s[:len(s)-1], api.ErrCut)
	// One instruction more than there may be.
	head, tail, _ := strings.Cut(s, "\xc0\x9a\x0c\x15\x00")
	if len(head) < 600000 {
		t.Fatalf("P17.1: %d bytes are ahead of the instructions", len(head))
	}
	readsNot(t, "too many", head+"\xc1\x9a\x0c\x01\x00\x00\x15\x00"+tail, api.ErrForm)
	for _, s := range []string{strings.Repeat("\x80", 1000000), strings.Repeat("\x00", 1000000), strings.Repeat("\x01", 1000000), "\x00\x00\xff\xff\xff\xff\x0f" + strings.Repeat("\x00", 1000000), "\x00\x00\x00\xff\xff\xff\xff\x0f" + strings.Repeat("\x01", 999999)} {
		_, f := image.Decode("BAIL" + s)
		if want := map[bool]api.Errno{true: api.ErrCut, false: api.ErrForm}[strings.Contains(s, "\x0f")]; f != want {
			t.Errorf("P17.2: %x: %d, not %d", s[:20], f, want)
		}
	}
	if took := time.Since(began); took > time.Minute {
		t.Errorf("%v", took)
	}
}
