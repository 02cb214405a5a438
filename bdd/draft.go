package bdd

import (
	"cmp"
	"slices"

	"bailment/api"
)

// none stands for a function for which there is no room.
const none = -1

// room is how many nodes there may be of all functions on the way to the one
// that is asked for, and how many answers are remembered: without an end to
// them a call might need more memory than there is.
const room = 1 << 20

// draft is nodes that are made for one call, behind those of a store. The store
// takes from it what belongs to the function that is asked for, or, where there
// is no room for all of that, nothing: a call that fails has changed nothing,
// and what was needed on the way alone takes up no room.
type draft struct {
	*Store
	fresh []node
	known map[node]int
	limit int // how many nodes there may be, with the store's: what needs more fails early
}

func (s *Store) draft() *draft {
	return &draft{Store: s, known: map[node]int{}, limit: s.budget}
}

func (d *draft) at(f int) node {
	if f < len(d.nodes) {
		return d.nodes[f]
	}
	return d.fresh[f-len(d.nodes)]
}

// put is the number of a node, which is made, if there is none like it.
func (d *draft) put(n node) int {
	switch {
	case n.low == none || n.high == none:
		return none
	case n.low == n.high:
		return n.low
	}
	if f, is := d.places[n]; is {
		return f
	}
	if f, is := d.known[n]; is {
		return f
	}
	f := len(d.nodes) + len(d.fresh)
	if f >= d.limit {
		return none
	}
	d.known[n] = f
	d.fresh = append(d.fresh, n)
	return f
}

// sides are what a function is where a variable is false, and where it is true.
// It may test none that is less.
func (d *draft) sides(f int, i int) (int, int) {
	n := d.at(f)
	if n.tests > i {
		return f, f
	}
	return n.low, n.high
}

// chooser tells g where f is true, else h. It makes nodes of that alone: each
// function that it comes to on its way down is a part of it.
func (d *draft) chooser() func(f int, g int, h int) int {
	var down func(l [3]int) int
	choose := func(f int, g int, h int) int {
		switch {
		case f == 1 || g == h:
			return g
		case f == 0:
			return h
		case g == 1 && h == 0:
			return f
		}
		return down([3]int{f, g, h})
	}
	down = remembered(func(l [3]int) int {
		i := min(d.at(l[0]).tests, d.at(l[1]).tests, d.at(l[2]).tests)
		var low, high [3]int
		for k, f := range l {
			low[k], high[k] = d.sides(f, i)
		}
		n := node{tests: i, low: choose(low[0], low[1], low[2])}
		if n.low == none {
			return none
		}
		n.high = choose(high[0], high[1], high[2])
		return d.put(n)
	})
	return choose
}

// restricter tells functions with a variable being true, or false.
func (d *draft) restricter(i int, b bool) func(f int) int {
	var down func(f int) int
	down = remembered(func(f int) int {
		n := d.at(f)
		switch {
		case n.tests > i:
			return f
		case n.tests < i:
			return d.put(node{n.tests, down(n.low), down(n.high)})
		case b:
			return n.high
		}
		return n.low
	})
	return down
}

// together puts functions together, one to the others ahead of it, as three
// tells: what is chosen by what. Of no functions that is empty.
func (s *Store) together(l []int, empty int, three func(f int, others int) (int, int, int)) (int, api.Errno) {
	if !s.has(l...) {
		return 0, api.ErrArg
	}
	d := s.draft()
	choose := d.chooser()
	whole := empty
	l = s.upwards(l)
	for i, f := range l {
		d.limit = room
		if i == len(l)-1 {
			// What is made from here on is a part of what is asked for.
			d.limit = s.budget + len(d.fresh)
		}
		if whole = choose(three(f, whole)); whole == none {
			break
		}
	}
	return d.keep(whole)
}

// upwards are functions, each once, the ones ahead that test the greatest
// variables alone: what is put on top of these later finds them put together
// already, so that less is made on the way.
func (s *Store) upwards(l []int) []int {
	l = slices.Clone(l)
	slices.SortFunc(l, func(f int, g int) int {
		return cmp.Or(s.nodes[g].tests-s.nodes[f].tests, f-g)
	})
	return slices.Compact(l)
}

// keep puts the nodes of a function into the store, and tells its number there.
func (d *draft) keep(f int) (int, api.Errno) {
	size := len(d.nodes)
	numbers, count := d.needed(f)
	if f == none || size+count > d.budget {
		return 0, api.ErrBudget
	}
	to := func(f int) int {
		if f < size {
			return f
		}
		return numbers[f-size]
	}
	for i, n := range d.fresh {
		if numbers[i] != none {
			n.low, n.high = to(n.low), to(n.high)
			d.places[n] = len(d.nodes)
			d.nodes = append(d.nodes, n)
		}
	}
	return to(f), api.OK
}

// needed are the numbers that fresh nodes get in the store, if those of a
// function are kept: none for all others; and how many these are.
func (d *draft) needed(f int) ([]int, int) {
	size := len(d.nodes)
	numbers := slices.Repeat([]int{none}, len(d.fresh))
	need := func(f int) {
		if f >= size {
			numbers[f-size] = 0
		}
	}
	need(f)
	for i, n := range slices.Backward(d.fresh) {
		if numbers[i] != none {
			need(n.low)
			need(n.high)
		}
	}
	count := 0
	for i, n := range numbers {
		if n != none {
			numbers[i] = size + count
			count++
		}
	}
	return numbers, count
}

// remembered is a function that reckons nothing twice, as long as it has room
// for what it knows.
func remembered[K comparable](reckon func(k K) int) func(k K) int {
	known := map[K]int{}
	return func(k K) int {
		v, is := known[k]
		if !is {
			v = reckon(k)
			if len(known) >= room {
				clear(known)
			}
			known[k] = v
		}
		return v
	}
}
