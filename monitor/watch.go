package monitor

import "slices"

// never stands for an instant that there was not.
const never = -1

// checks are the streams that must be true, and of each one the first instant
// at which it was not.
type checks struct {
	holds []int
	first []int
}

// Watch keeps, for each check, the first instant at which it failed.
type Watch struct {
	checks
	count int
}

// New is a watch ahead of the first instant.
func New(l []Check) *Watch {
	w := &Watch{}
	for _, c := range l {
		w.holds = append(w.holds, c.Holds)
		w.first = append(w.first, never)
	}
	return w
}

// Step tells which checks fail at the next instant, and never did.
func (w *Watch) Step(row []int) []int {
	if w == nil {
		return nil
	}
	failed := w.failed(row, w.count)
	w.count++
	return failed
}

// First are the instants at which checks failed first; -1: one never did.
func (w *Watch) First() []int {
	if w == nil {
		return nil
	}
	return slices.Clone(w.first)
}

// Count is how many instants there were.
func (w *Watch) Count() int {
	if w == nil {
		return 0
	}
	return w.count
}

// failed has an instant as the first one of all checks that never failed, and
// whose stream is false then, or is not there.
func (c *checks) failed(row []int, instant int) []int {
	var numbers []int
	for i, k := range c.holds {
		if c.first[i] == never && (k < 0 || k >= len(row) || row[k] == 0) {
			c.first[i] = instant
			numbers = append(numbers, i)
		}
	}
	return numbers
}
