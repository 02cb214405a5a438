package modes

import (
	"slices"

	"bailment/api"
	"bailment/atoms"
	"bailment/bdd"
)

const (
	// missing stands for a function that did not go into the store. No node has
	// that number: what is made of it is missing, too.
	missing = -1
	// mostStores bounds the time that a check takes, where much is missing.
	mostStores = 500
)

// bench is where functions of truth are made, of assumptions and of what modes
// require, over their atoms.
type bench struct {
	vars     int
	budget   int
	assumed  []api.Expr
	required []api.Expr
	store    *bdd.Store
	stores   int         // how many were taken
	actives  map[int]int // those that are in the store, or did not go into it
}

// renew takes an empty store, unless there were too many.
func (b *bench) renew() bool {
	if b.stores == mostStores {
		return false
	}
	b.store, _ = bdd.New(b.vars, b.budget)
	b.stores++
	b.actives = map[int]int{}
	return true
}

// made is a function that a store was asked for.
func made(f int, fault api.Errno) int {
	if fault != api.OK {
		return missing
	}
	return f
}

// functions are those of expressions, in order.
func (b *bench) functions(l ...api.Expr) []int {
	var numbers []int
	for _, e := range l {
		numbers = append(numbers, made(atoms.Make(b.store, e)))
	}
	return numbers
}

// active is true where all assumptions are, and what a mode requires.
func (b *bench) active(i int) int {
	f, is := b.actives[i]
	if !is {
		l := b.functions(append(b.assumed, b.required[i])...)
		f = made(b.store.And(l...))
		b.actives[i] = f
	}
	return f
}

// both is true where two modes are active.
func (b *bench) both(i int, j int) int {
	return made(b.store.And(b.active(i), b.active(j)))
}

// gap is true where all assumptions are, and nothing that a mode requires.
func (b *bench) gap() int {
	some := made(b.store.Or(b.functions(b.required...)...))
	none := made(b.store.Not(some))
	return made(b.store.And(append(b.functions(b.assumed...), none)...))
}

// shortest are the numbers of pairs, those ahead whose modes require the
// shortest: what is too much for a store must not take theirs away.
func (b *bench) shortest(l []Pair) []int {
	length := func(k int) int {
		return len(b.required[l[k].I]) + len(b.required[l[k].J])
	}
	numbers := make([]int, len(l))
	for k := range numbers {
		numbers[k] = k
	}
	slices.SortStableFunc(numbers, func(k int, n int) int { return length(k) - length(n) })
	return numbers
}
