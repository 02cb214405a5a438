package image_test

import (
	"encoding/binary"
	"math"
	"math/rand"
	"slices"
	"testing"
	"unicode"

	"bailment/api"
	"bailment/code"
	"bailment/image"
)

// named are the fields that an instruction names, in an image's order, by its Op.
func named() map[int]string {
	of := map[int]string{api.OpVar: "DN", api.OpNum: "DN", api.OpBool: "DN", api.OpNot: "DA", api.OpNeg: "DA", api.OpIf: "DABC", api.OpArrow: "DAB", api.OpPre: "DN", code.OpStore: "AN"}
	for op := api.OpAnd; op <= api.OpMod; op++ {
		of[op] = "DAB"
	}
	return of
}

// field is one of an instruction's, by its letter.
func field(x *code.Ins, letter rune) *int {
	return map[rune]*int{'D': &x.D, 'A': &x.A, 'B': &x.B, 'C': &x.C, 'N': &x.N}[letter]
}

// numbers are all that stands in an image behind its mark, as they are written.
func numbers(c code.Code) []int {
	l := append([]int{c.Regs, c.Slots, len(c.Inputs)}, c.Inputs...)
	l = append(l, len(c.Ins))
	for _, x := range c.Ins {
		l = append(l, x.Op)
		for _, letter := range named()[x.Op] {
			n := *field(&x, letter)
			if letter == 'N' {
				n = n<<1 ^ n>>63
			}
			l = append(l, n)
		}
	}
	return append(append(l, len(c.Outs)), c.Outs...)
}

// written are numbers as bytes, by the library.
func written(l []int) string {
	b := []byte("BAIL")
	for _, n := range l {
		b = binary.AppendUvarint(b, uint64(n))
	}
	return string(b)
}

// due is what is to come so many times.
type due struct {
	what  rune
	times int
}

// telling is an image that is read byte by byte, with a row of what is due.
type telling struct {
	code.Code
	row []due
}

// told is what P17.2 says, told in another way; and why there is a fault.
func told(s string) (code.Code, string) {
	switch {
	case len(s) < 4 && s == "BAIL"[:len(s)]:
		return code.Code{}, "cut"
	case len(s) < 4 || s[:4] != "BAIL":
		return code.Code{}, "mark"
	}
	m := &telling{row: []due{{'r', 1}, {'s', 1}, {'i', 1}, {'x', 1}, {'o', 1}}}
	number, length, other, at := 0, 0, false, 4
	for ; len(m.row) > 0; at++ {
		if at == len(s) {
			return code.Code{}, "cut"
		}
		number += int(s[at]&127) << (7 * length)
		length++
		switch {
		case number >= 1<<32:
			return code.Code{}, "great"
		case s[at] > 127 && length == 6:
			return code.Code{}, "long"
		case s[at] > 127:
			continue
		case length > 1 && s[at] == 0:
			other = true
		}
		if !m.came(number) {
			return code.Code{}, "operator"
		}
		number, length = 0, 0
	}
	switch {
	case at < len(s):
		return code.Code{}, "more"
	case other:
		return code.Code{}, "other"
	case code.Check(m.Code) != api.OK:
		return code.Code{}, "may not"
	}
	return m.Code, "fine"
}

// came puts a number where it belongs, and what comes with it ahead of the row;
// false: it is an operator that is none.
func (m *telling) came(number int) bool {
	what := m.row[0].what
	m.row[0].times--
	if m.row[0].times == 0 {
		m.row = m.row[1:]
	}
	last := len(m.Ins) - 1
	switch what {
	case 'r':
		m.Regs = number
	case 's':
		m.Slots = number
	case 'i', 'x', 'o': // how many there are
		if number > 0 {
			m.row = append([]due{{unicode.ToUpper(what), number}}, m.row...)
		}
	case 'I':
		m.Inputs = append(m.Inputs, number)
	case 'O':
		m.Outs = append(m.Outs, number)
	case 'X':
		letters, is := named()[number]
		for i := len(letters) - 1; i >= 0; i-- {
			m.row = append([]due{{rune(letters[i]), 1}}, m.row...)
		}
		m.Ins = append(m.Ins, code.Ins{Op: number})
		return is
	case 'N':
		m.Ins[last].N = number>>1 ^ -(number & 1)
	default:
		*field(&m.Ins[last], what) = number
	}
	return true
}

// some is code that may be, of numbers of one byte and of more.
func some(r *rand.Rand) code.Code {
	c := code.Code{Regs: 1 + r.Intn(5), Slots: r.Intn(3)}
	if r.Intn(3) == 0 {
		c.Regs, c.Slots = 1+r.Intn(100000), r.Intn(100001)
	}
	for range r.Intn(4) {
		c.Inputs = append(c.Inputs, []int{api.Bool, api.Int, r.Intn(300), r.Intn(1 << 32)}[r.Intn(4)])
	}
	var wrote, stored []int
	for range r.Intn(12) {
		x := code.Ins{Op: 1 + r.Intn(code.OpStore)}
		if r.Intn(8) == 0 {
			x.Op = code.OpStore
		}
		letters, is := named()[x.Op]
		reads := letters != "DN"
		limit := map[int]int{api.OpVar: len(c.Inputs), api.OpNum: 1, api.OpBool: 2, api.OpPre: c.Slots, code.OpStore: c.Slots}
		n, has := limit[x.Op]
		if !is || reads && len(wrote) == 0 || has && n == 0 || x.Op == api.OpPre && len(stored) > 0 {
			continue
		}
		for _, letter := range letters {
			switch letter {
			case 'D':
				x.D = r.Intn(c.Regs)
			case 'N':
				x.N = r.Intn(n)
			default:
				*field(&x, letter) = wrote[r.Intn(len(wrote))]
			}
		}
		if x.Op == api.OpNum {
			x.N = []int{0, 1, -1, r.Intn(200) - 100, r.Intn(1<<20) - 1<<19, math.MaxInt32, math.MinInt32, r.Intn(1<<32) - 1<<31}[r.Intn(8)]
		}
		if x.Op == code.OpStore && slices.Contains(stored, x.N) {
			continue
		}
		if x.Op == code.OpStore {
			stored = append(stored, x.N)
		} else {
			wrote = append(wrote, x.D)
		}
		c.Ins = append(c.Ins, x)
	}
	for range r.Intn(3) * min(len(wrote), 1) {
		c.Outs = append(c.Outs, wrote[r.Intn(len(wrote))])
	}
	return c
}

// spoiled is an image with something wrong, perhaps.
func spoiled(r *rand.Rand, s string) string {
	at := r.Intn(len(s) + 1)
	if r.Intn(8) > 0 {
		at = 4 + r.Intn(len(s)-3)
	}
	piece := []string{"\x00", "\x01", "\x80", "\xff", "\x80\x00", "\xff\xff\xff\xff\x0f", "\xff\xff\xff\xff\x10", "\x80\x80\x80\x80\x80\x80", "\x80\x80\x80\x80\x80\x00", string([]byte{byte(r.Intn(256))})}[r.Intn(10)]
	switch r.Intn(5) {
	case 0:
		return s[:at]
	case 1:
		return s[:at] + piece + s[at:]
	case 2:
		return s[:at] + s[min(at+1, len(s)):]
	case 3:
		return s[:at] + piece + s[min(at+1, len(s)):]
	}
	// A number's last byte goes on with nothing.
	if l := ends(s); len(l) > 0 {
		at = l[r.Intn(len(l))]
		return s[:at-1] + string([]byte{s[at-1] | 128}) + []string{"\x80\x80\x80\x80\x00", "\x80\x00", "\x00"}[r.Intn(3)] + s[at:]
	}
	return s
}

// decodes holds what is read against what is told of it.
func decodes(t *testing.T, s string) string {
	t.Helper()
	c, why := told(s)
	switch why {
	case "fine":
		reads(t, why, s, c)
		writes(t, why, c, s)
	case "cut":
		readsNot(t, why, s, api.ErrCut)
	default:
		readsNot(t, why, s, api.ErrForm)
	}
	return why
}

func TestManyCodes(t *testing.T) {
	r := rand.New(rand.NewSource(171))
	seen, ops := map[string]int{}, map[int]int{}
	for range 30000 {
		c := some(r)
		for _, x := range c.Ins {
			ops[x.Op]++
		}
		s := written(numbers(c))
		writes(t, "some", c, s)
		if why := decodes(t, s); why != "fine" {
			t.Fatalf("%s: %s", why, short(c))
		}
		for range 4 {
			bad := spoiled(r, s)
			seen[decodes(t, bad)]++
			seen[decodes(t, spoiled(r, bad+"BAIL"[:max(4-len(bad), 0)]))]++
		}
		if t.Failed() {
			return
		}
	}
	for op := range named() {
		if ops[op] < 1000 {
			t.Errorf("operator %d: seen %d times", op, ops[op])
		}
	}
	for _, why := range []string{"fine", "cut", "mark", "great", "long", "operator", "more", "other", "may not"} {
		if seen[why] < 1000 {
			t.Errorf("%s: seen %d times", why, seen[why])
		}
	}
}

// Nothing that is handed in makes a call panic.
func TestAnything(t *testing.T) {
	r := rand.New(rand.NewSource(172))
	draw := func() int {
		return []int{-1, 0, 0, 0, 1, r.Intn(4), r.Intn(32), math.MinInt, math.MaxInt}[r.Intn(9)]
	}
	seen := map[bool]int{}
	for range 100000 {
		c := code.Code{Regs: draw(), Slots: draw()}
		for range r.Intn(3) {
			c.Ins = append(c.Ins, code.Ins{Op: draw(), D: draw(), A: r.Intn(2) * draw(), B: r.Intn(2) * draw(), C: r.Intn(2) * draw(), N: draw()})
		}
		for range r.Intn(3) {
			c.Inputs = append(c.Inputs, draw())
		}
		may := code.Check(c) == api.OK && !slices.ContainsFunc(c.Inputs, func(n int) bool { return n < 0 || n >= 1<<32 })
		if may {
			writes(t, "anything", c, written(numbers(c)))
		} else {
			writesNot(t, "anything", c)
		}
		seen[may]++
		var b []byte
		for range r.Intn(20) {
			b = append(b, []byte{0, 0, 1, 1, 2, 14, 128, 255, byte(r.Intn(256))}[r.Intn(9)])
		}
		decodes(t, "BAIL"+string(b))
		decodes(t, string(b))
		if t.Failed() {
			return
		}
	}
	if seen[true] < 1000 || seen[false] < 1000 {
		t.Error(seen)
	}
}

// FuzzDecode goes on from images, where it is asked to.
func FuzzDecode(f *testing.F) {
	r := rand.New(rand.NewSource(173))
	for range 100 {
		s, _ := image.Encode(some(r))
		f.Add(s)
		f.Add(spoiled(r, s))
	}
	f.Fuzz(func(t *testing.T, s string) { decodes(t, s) })
}
