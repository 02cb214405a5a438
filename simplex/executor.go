package simplex

import (
	"bailment/api"
	"bailment/monitor"
)

// executor is a program that runs. Of each instant so far there is a number in
// Outs: the next one is the instant of as many as there are.
type executor struct {
	Result
	primary  step
	fallback step
	watch    *monitor.Watch
	checks   []monitor.Check
}

// begun is a program ahead of its first instant, whose inputs will be rows.
func begun(m parts, rows [][]int) (*executor, api.Errno) {
	x := &executor{Result: Result{Latch: never, EndedAt: never}}
	told := append([]int{m.out}, x.watches(m.checks)...)
	var fault api.Errno
	if x.primary, fault = started(m.primary, told, rows); fault != api.OK {
		return nil, fault
	}
	if len(m.back) == 0 {
		x.fallback = x.nothing
		return x, api.OK
	}
	x.fallback, fault = started(m.back, told[:1], rows)
	return x, fault
}

// watches has checks watched, and tells which streams must be told for that:
// the primary tells them behind what is published.
func (x *executor) watches(l []monitor.Check) []int {
	var told []int
	for _, c := range l {
		told = append(told, c.Holds)
		x.checks = append(x.checks, monitor.Check{Kind: c.Kind, Name: c.Name, Holds: len(told), Active: -1})
	}
	x.watch = monitor.New(x.checks)
	return told
}

// nothing stands for a fallback that there is not: its error is why it is asked.
func (x *executor) nothing(in []int) ([]int, api.Errno) { return nil, x.Why }

// run goes through instants, until it ends.
func (x *executor) run(rows [][]int) {
	for x.Ended == api.OK && len(x.Outs) < len(rows) {
		x.instant(rows[len(x.Outs)])
	}
}

// instant publishes one more number, or ends. The fallback goes through it,
// whether its number is published or not.
func (x *executor) instant(in []int) {
	var row []int
	if x.Latch == never {
		row = x.lead(in)
	}
	behind, fault := x.fallback(in)
	if x.Latch != never {
		if fault != api.OK {
			x.end(fault)
			return
		}
		row = behind
	}
	x.Outs = append(x.Outs, row[0])
}

// lead has the primary go through an instant, and sets the latch, if it fails.
func (x *executor) lead(in []int) []int {
	row, fault := x.primary(in)
	if fault != api.OK {
		x.latch(fault)
		return nil
	}
	for _, k := range x.watch.Step(row) {
		c := x.checks[k]
		x.Log = append(x.Log, Verdict{Check: k, Kind: c.Kind, Name: c.Name, At: len(x.Outs)})
		if c.Kind != api.Assume {
			x.latch(api.ErrGhost)
		}
	}
	return row
}

func (x *executor) latch(why api.Errno) { x.Latch, x.Why = len(x.Outs), why }

func (x *executor) end(why api.Errno) { x.Ended, x.EndedAt = why, len(x.Outs) }
