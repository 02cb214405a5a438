package flat

import "bailment/api"

// memory is what a node of the past knows of the instants ahead. It is asked
// for the node's value at each instant, and told of the operands at its end:
// an operand of a Pre or a Prev may have no value until then.
type memory interface {
	value(a int, b int) int
	keep(a int, b int)
}

// remembers makes the memory of a node; most have none.
func remembers(n api.Node) memory {
	switch n.Op {
	case api.OpArrow:
		return &arrow{}
	case api.OpPre:
		return &pre{}
	case api.OpPrev:
		return &prev{}
	case api.OpOnce:
		return &once{}
	case api.OpHist:
		return &hist{}
	case api.OpWithin:
		return &within{instants: n.N}
	case api.OpSince:
		return &since{}
	}
	return nil
}

func number(b bool) int {
	if b {
		return 1
	}
	return 0
}

type arrow struct{ begun bool }

func (m *arrow) value(a int, b int) int {
	if m.begun {
		return b
	}
	return a
}

func (m *arrow) keep(a int, b int) { m.begun = true }

type pre struct{ last int }

func (m *pre) value(a int, b int) int { return m.last }

func (m *pre) keep(a int, b int) { m.last = a }

type prev struct{ was bool }

func (m *prev) value(a int, b int) int { return number(m.was) }

func (m *prev) keep(a int, b int) { m.was = a != 0 }

type once struct{ was bool }

func (m *once) value(a int, b int) int { return number(m.was || a != 0) }

func (m *once) keep(a int, b int) { m.was = m.was || a != 0 }

type hist struct{ broken bool }

func (m *hist) value(a int, b int) int { return number(!m.broken && a != 0) }

func (m *hist) keep(a int, b int) { m.broken = m.broken || a == 0 }

// within counts down how many instants more it is true without its operand.
type within struct{ instants, left int }

func (m *within) value(a int, b int) int { return number(m.left > 0 || a != 0) }

func (m *within) keep(a int, b int) {
	m.left = max(m.left-1, 0)
	if a != 0 {
		m.left = m.instants
	}
}

type since struct{ holds bool }

func (m *since) value(a int, b int) int { return number(b != 0 || m.holds && a != 0) }

func (m *since) keep(a int, b int) { m.holds = m.value(a, b) != 0 }
