package flat

import (
	"bailment/api"
	"bailment/cause"
	"bailment/num"
	"bailment/tree"
)

// cell is a node that runs.
type cell struct {
	memory     // of a node of the past
	reads  int // of a Var: the number of its stream
	now    int // the value at this instant
}

// running is a stream that runs.
type running struct {
	api.Stream
	cells []cell
	early []int // nodes that are reckoned when it is the stream's turn
	late  []int // nodes that only the next instant needs: any stream may stand in them
}

// runner is all streams, in their order, and their values at an instant.
type runner struct {
	streams []*running
	inputs  []int // numbers of streams
	order   []int // numbers of those that are no inputs, in the order of their turns
	row     []int
}

// Run tells what streams are, instant by instant; and where it ends by a fault, and which.
func Run(l []api.Stream, in [][]int) ([][]int, api.Errno) {
	r, fault := started(l)
	if fault != api.OK {
		return nil, fault
	}
	var rows [][]int
	for _, given := range in {
		if fault := r.step(given); fault != api.OK {
			return rows, fault
		}
		rows = append(rows, r.row)
	}
	return rows, api.OK
}

// started makes streams that may run ready to.
func started(l []api.Stream) (*runner, api.Errno) {
	numbers, ok := numbered(l)
	if !ok {
		return nil, api.ErrArg
	}
	r := &runner{}
	var equations []api.Equation
	var told []int // the numbers of their streams
	for i, s := range l {
		r.streams = append(r.streams, begun(s, numbers))
		if len(s.E) == 0 {
			r.inputs = append(r.inputs, i)
		} else {
			equations = append(equations, api.Equation{Name: s.Name, E: s.E})
			told = append(told, i)
		}
	}
	order, fault := cause.Order(equations)
	for _, i := range order {
		r.order = append(r.order, told[i])
	}
	return r, fault
}

// numbered are the numbers of streams by their names; not ok: they can't run.
func numbered(l []api.Stream) (map[string]int, bool) {
	if len(l) > api.MaxEqs {
		return nil, false
	}
	numbers := map[string]int{}
	for i, s := range l {
		numbers[s.Name] = i
	}
	if len(numbers) < len(l) {
		return nil, false
	}
	for _, s := range l {
		if len(s.E) > 0 && !may(s.E, numbers) {
			return nil, false
		}
	}
	return numbers, true
}

// may tells whether an expression may be, of streams alone, without calls.
func may(e api.Expr, numbers map[string]int) bool {
	if !tree.May(e) {
		return false
	}
	for _, n := range e {
		_, known := numbers[n.Name]
		if n.Op == api.OpCall || n.Op == api.OpVar && !known {
			return false
		}
	}
	return true
}

// begun is a stream ahead of its first instant.
func begun(s api.Stream, numbers map[string]int) *running {
	r := &running{Stream: s, cells: make([]cell, len(s.E))}
	for i, n := range r.E {
		r.cells[i] = cell{memory: remembers(n), reads: numbers[n.Name]}
	}
	before := make([]bool, len(r.E))
	for i := len(r.E) - 1; i >= 0; i-- {
		n := r.E[i]
		ends := n.Op == api.OpPre || n.Op == api.OpPrev
		for _, k := range tree.Kids(n) {
			before[k] = before[i] || ends
		}
	}
	for i, late := range before {
		if late {
			r.late = append(r.late, i)
		} else {
			r.early = append(r.early, i)
		}
	}
	return r
}

// step reckons an instant. Behind a fault there is no other step.
func (r *runner) step(given []int) api.Errno {
	r.row = make([]int, len(r.streams))
	if !r.take(given) {
		return api.ErrFrame
	}
	fault := api.OK
	for _, i := range r.order {
		s := r.streams[i]
		fault = least(fault, s.reckon(s.early, r.row))
		r.row[i] = s.at(len(s.E) - 1)
	}
	for _, s := range r.streams {
		fault = least(fault, s.reckon(s.late, r.row))
	}
	for _, s := range r.streams {
		s.keep()
	}
	return fault
}

// take has the inputs' values; false: they can't be theirs.
func (r *runner) take(given []int) bool {
	if len(given) != len(r.inputs) {
		return false
	}
	for k, i := range r.inputs {
		v := given[k]
		if !num.Fits(v) || r.streams[i].Type == api.Bool && v != 0 && v != 1 {
			return false
		}
		r.row[i] = v
	}
	return true
}

// reckon gives nodes their values, and tells the least error of them.
func (s *running) reckon(nodes []int, row []int) api.Errno {
	fault := api.OK
	for _, i := range nodes {
		v, f := s.node(i, row)
		s.cells[i].now = v
		fault = least(fault, f)
	}
	return fault
}

func (s *running) node(i int, row []int) (int, api.Errno) {
	n, c := s.E[i], s.cells[i]
	switch {
	case c.memory != nil:
		return c.value(s.at(n.A), s.at(n.B)), api.OK
	case n.Op == api.OpVar:
		return row[c.reads], api.OK
	case n.Op == api.OpNum || n.Op == api.OpBool:
		return n.N, api.OK
	}
	return num.Do(n.Op, s.at(n.A), s.at(n.B), s.at(n.C))
}

// keep has all memories remember the instant.
func (s *running) keep() {
	for i, c := range s.cells {
		if c.memory != nil {
			c.keep(s.at(s.E[i].A), s.at(s.E[i].B))
		}
	}
}

// at is the value of a node; an operand that there is not is 0.
func (s *running) at(k int) int {
	if k < 0 {
		return 0
	}
	return s.cells[k].now
}

// least is the least one of two errors, if there is one.
func least(a api.Errno, b api.Errno) api.Errno {
	if a == api.OK || b == api.OK {
		return max(a, b)
	}
	return min(a, b)
}
