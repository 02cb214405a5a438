package norm

import (
	"slices"

	"bailment/api"
	"bailment/num"
)

const mostOps = 100000

// The states of an operator, while it is asked whether a net goes round.
const (
	unseen = iota
	open   // what it needs is being asked
	done   // nothing that it needs comes back to it
)

// Check tells whether a net may be.
func Check(n Net) api.Errno {
	switch {
	case !n.may():
		return api.ErrArg
	case n.round():
		return api.ErrCycle
	}
	return api.OK
}

func (n Net) may() bool {
	isNone := func(i int) bool { return i < 0 || i >= len(n.Ops) }
	if len(n.Ops) > mostOps || slices.ContainsFunc(n.Roots, isNone) {
		return false
	}
	for _, o := range n.Ops {
		count := operands(o.Op)
		fields := [3]int{o.A, o.B, o.C}
		if count < 0 || slices.ContainsFunc(fields[:count], isNone) || !n.bears(o) {
			return false
		}
		for _, k := range fields[count:] {
			if k != -1 {
				return false
			}
		}
	}
	return true
}

// operands is how many an operator takes; -1: it is none of a net.
func operands(op int) int {
	switch op {
	case api.OpVar, api.OpNum, api.OpBool:
		return 0
	case api.OpPre:
		return 1
	case api.OpArrow:
		return 2
	}
	return num.Operands(op)
}

// bears tells whether an operator's number is one that it may have.
func (n Net) bears(o Op) bool {
	switch o.Op {
	case api.OpVar:
		return 0 <= o.N && o.N < len(n.Inputs) && num.Fits(o.N)
	case api.OpNum:
		return num.Fits(o.N)
	case api.OpBool:
		return o.N == 0 || o.N == 1
	}
	return o.N == 0
}

// round tells whether an operator needs itself.
func (n Net) round() bool {
	states := make([]int, len(n.Ops))
	var back func(i int) bool
	back = func(i int) bool {
		if states[i] != unseen {
			return states[i] == open
		}
		states[i] = open
		if slices.ContainsFunc(needs(n.Ops[i]), back) {
			return true
		}
		states[i] = done
		return false
	}
	for i := range n.Ops {
		if back(i) {
			return true
		}
	}
	return false
}

// needs are the operators that must be reckoned ahead of one.
func needs(o Op) []int {
	if o.Op == api.OpPre {
		return nil
	}
	return []int{o.A, o.B, o.C}[:operands(o.Op)]
}
