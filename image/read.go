package image

import (
	"strings"

	"bailment/api"
	"bailment/code"
)

// reader reads an image, from what is left of it. Behind its first fault it
// reads nothing but zeroes.
type reader struct {
	rest  string
	fault api.Errno
}

// Decode reads code.
func Decode(s string) (code.Code, api.Errno) {
	rest, begins := strings.CutPrefix(s, mark)
	switch {
	case !begins && strings.HasPrefix(mark, s):
		return code.Code{}, api.ErrCut
	case !begins:
		return code.Code{}, api.ErrForm
	}
	r := &reader{rest: rest}
	c := r.code()
	if r.fault != api.OK {
		return code.Code{}, r.fault
	}
	// Whatever else may be wrong, of the code or of how it is written, it is
	// written in another way then, or not at all.
	if again, fault := Encode(c); fault != api.OK || again != s {
		return code.Code{}, api.ErrForm
	}
	return c, api.OK
}

func (r *reader) code() code.Code {
	c := code.Code{Regs: r.number(), Slots: r.number()}
	c.Inputs = r.numbers()
	for left := r.number(); left > 0 && r.fault == api.OK; left-- {
		c.Ins = append(c.Ins, r.instruction())
	}
	c.Outs = r.numbers()
	return c
}

func (r *reader) instruction() code.Ins {
	x := code.Ins{Op: r.number()}
	named := registers(&x)
	if len(named) == 0 {
		r.fail(api.ErrForm)
	}
	for _, register := range named {
		*register = r.number()
	}
	if hasNumber(x.Op) {
		x.N = unsigned(r.number())
	}
	return x
}

// numbers are read with how many there are ahead of them. There is no room made
// for so many: it may not be so.
func (r *reader) numbers() []int {
	var l []int
	for left := r.number(); left > 0 && r.fault == api.OK; left-- {
		l = append(l, r.number())
	}
	return l
}

// number reads byte by byte, so that the first fault is told.
func (r *reader) number() int {
	n, place := 0, 1
	for range longest {
		b := r.next()
		n += b % more * place
		place *= more
		if n > most {
			r.fail(api.ErrForm)
		}
		if r.fault != api.OK {
			return 0
		}
		if b < more {
			return n
		}
	}
	r.fail(api.ErrForm)
	return 0
}

// next is a byte.
func (r *reader) next() int {
	if r.rest == "" {
		r.fail(api.ErrCut)
		return 0
	}
	b := r.rest[0]
	r.rest = r.rest[1:]
	return int(b)
}

// fail keeps the first fault.
func (r *reader) fail(fault api.Errno) {
	if r.fault == api.OK {
		r.fault = fault
	}
}
