package atoms

import (
	"strconv"
	"strings"

	"bailment/api"
	"bailment/tree"
)

const (
	mark   = "?" // begins the names of atoms
	noAtom = -1
)

func nameOf(k int) string { return mark + strconv.Itoa(k) }

// numberOf tells which atom has a name.
func numberOf(name string) int {
	digits, _ := strings.CutPrefix(name, mark)
	k, err := strconv.Atoi(digits)
	// A number that is written in another way, such as 01, names no atom.
	if err != nil || k < 0 || name != nameOf(k) {
		return noAtom
	}
	return k
}

// connects tells whether an operator makes truth of truth at the same instant.
func connects(op int) bool {
	switch op {
	case api.OpBool, api.OpNot, api.OpAnd, api.OpOr, api.OpXor, api.OpImp, api.OpIf:
		return true
	}
	return false
}

// isOver tells whether an expression is one over so many atoms.
func isOver(e api.Expr, count int) bool {
	for _, n := range e {
		k := numberOf(n.Name)
		isAtom := n.Op == api.OpVar && k != noAtom && k < count
		if !isAtom && !connects(n.Op) {
			return false
		}
	}
	return tree.May(e)
}

// algebra is what truth is told in: values, or functions.
type algebra[T any] struct {
	constant func(b bool) T
	atom     func(k int) (T, api.Errno)
	choose   func(f T, g T, h T) (T, api.Errno) // g where f is true, else h
}

// reckon tells what an expression over atoms is, or the first fault of one of
// its nodes.
func reckon[T any](e api.Expr, a algebra[T]) (T, api.Errno) {
	var whole, none T
	values := make([]T, 0, len(e))
	for _, n := range e {
		v, fault := reckonNode(n, values, a)
		if fault != api.OK {
			return none, fault
		}
		values = append(values, v)
		whole = v
	}
	return whole, api.OK
}

// reckonNode tells what a node is, by what those ahead of it are.
func reckonNode[T any](n api.Node, ahead []T, a algebra[T]) (T, api.Errno) {
	never, always := a.constant(false), a.constant(true)
	switch n.Op {
	case api.OpBool:
		return a.constant(n.N == 1), api.OK
	case api.OpVar:
		return a.atom(numberOf(n.Name))
	case api.OpNot:
		return a.choose(ahead[n.A], never, always)
	case api.OpAnd:
		return a.choose(ahead[n.A], ahead[n.B], never)
	case api.OpOr:
		return a.choose(ahead[n.A], always, ahead[n.B])
	case api.OpImp:
		return a.choose(ahead[n.A], ahead[n.B], always)
	case api.OpIf:
		return a.choose(ahead[n.A], ahead[n.B], ahead[n.C])
	}
	// An Xor is all that is left.
	other, fault := a.choose(ahead[n.B], never, always)
	if fault != api.OK {
		return other, fault
	}
	return a.choose(ahead[n.A], other, ahead[n.B])
}
