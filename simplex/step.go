package simplex

import (
	"bailment/api"
	"bailment/code"
	"bailment/flat"
	"bailment/machine"
	"bailment/norm"
	"bailment/past"
)

// step has a node go through its next instant: it tells what some of its
// streams are, or the error that ended it, from then on again and again.
type step func(in []int) ([]int, api.Errno)

// started is a node ahead of its first instant, whose inputs will be rows.
func started(streams []api.Stream, told []int, rows [][]int) (step, api.Errno) {
	// The numbers of streams stay what they are: memories stand behind all of
	// them, and there is a root for each one.
	free, fault := past.Free(streams)
	if fault != api.OK {
		return nil, fault
	}
	net, fault := norm.Make(free)
	if fault != api.OK {
		return nil, fault
	}
	c, fault := code.Make(net, told)
	if fault != api.OK {
		// It has more operators than code may have.
		return (&retold{streams: streams, told: told, in: rows}).step, api.OK
	}
	m, fault := machine.New(c)
	if fault != api.OK {
		return nil, fault
	}
	return m.Step, api.OK
}

// retold is a node that no machine can run: it goes through what flat.Run tells.
type retold struct {
	streams []api.Stream
	told    []int
	in      [][]int
	rows    [][]int
	fault   api.Errno
	next    int // instant
}

// few is for how many instants flat.Run is asked at least: to begin takes it as
// long as some of them.
const few = 16

// step knows its inputs ahead: flat.Run goes from the beginning on each time. It
// is asked for twice as many instants as were gone through, so that it is asked
// seldom, and not for all where a program ends early.
func (r *retold) step(in []int) ([]int, api.Errno) {
	if r.next == len(r.rows) && r.fault == api.OK {
		r.rows, r.fault = flat.Run(r.streams, r.in[:min(2*r.next+few, len(r.in))])
	}
	if r.next >= len(r.rows) {
		return nil, r.fault
	}
	var outs []int
	for _, i := range r.told {
		outs = append(outs, r.rows[r.next][i])
	}
	r.next++
	return outs, api.OK
}
