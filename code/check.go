package code

import (
	"slices"

	"bailment/api"
	"bailment/num"
)

const (
	mostIns  = 200000
	mostKept = 100000 // registers, and slots
)

// set is some numbers.
type set map[int]struct{}

func (s set) has(i int) bool {
	_, ok := s[i]
	return ok
}

func (s set) put(i int) { s[i] = struct{}{} }

// checker is code of which some instructions, from the first one on, may be.
type checker struct {
	Code
	written set // registers
	stored  set // slots
}

// Check tells whether instructions may be.
func Check(c Code) api.Errno {
	k := checker{Code: c, written: set{}, stored: set{}}
	if !k.sized() {
		return api.ErrArg
	}
	for _, x := range c.Ins {
		if !k.may(x) {
			return api.ErrArg
		}
		k.gone(x)
	}
	if slices.ContainsFunc(c.Outs, k.unwritten) {
		return api.ErrArg
	}
	return api.OK
}

func (k checker) sized() bool {
	return isBelow(k.Regs, mostKept+1) && isBelow(k.Slots, mostKept+1) && len(k.Ins) <= mostIns
}

func isBelow(i int, end int) bool { return 0 <= i && i < end }

func (k checker) unwritten(r int) bool { return !k.written.has(r) }

// may tells whether an instruction may stand behind those so far.
func (k checker) may(x Ins) bool {
	count := reads(x.Op)
	fields := [3]int{x.A, x.B, x.C}
	if count < 0 || slices.ContainsFunc(fields[:count], k.unwritten) || !k.bears(x) {
		return false
	}
	if slices.ContainsFunc(fields[count:], func(field int) bool { return field != 0 }) {
		return false
	}
	if x.Op == OpStore {
		return x.D == 0
	}
	return isBelow(x.D, k.Regs)
}

// reads is how many registers an instruction reads; -1: it is none.
func reads(op int) int {
	switch op {
	case api.OpVar, api.OpNum, api.OpBool, api.OpPre:
		return 0
	case OpStore:
		return 1
	case api.OpArrow:
		return 2
	}
	return num.Operands(op)
}

// bears tells whether an instruction's number is one that it may have here.
func (k checker) bears(x Ins) bool {
	switch x.Op {
	case api.OpVar:
		return isBelow(x.N, len(k.Inputs))
	case api.OpNum:
		return num.Fits(x.N)
	case api.OpBool:
		return isBelow(x.N, 2)
	case api.OpPre:
		return isBelow(x.N, k.Slots) && len(k.stored) == 0
	case OpStore:
		return isBelow(x.N, k.Slots) && !k.stored.has(x.N)
	}
	return x.N == 0
}

// gone has an instruction as one of those so far.
func (k checker) gone(x Ins) {
	if x.Op == OpStore {
		k.stored.put(x.N)
		return
	}
	k.written.put(x.D)
}
