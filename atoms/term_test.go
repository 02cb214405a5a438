package atoms_test

import (
	"fmt"
	"math/rand"
	"slices"
	"strconv"
	"strings"
	"testing"

	"bailment/api"
	"bailment/expr"
	"bailment/show"
)

var (
	connectives = []int{api.OpBool, api.OpNot, api.OpAnd, api.OpOr, api.OpXor, api.OpImp, api.OpIf}
	ones        = []int{api.OpNot, api.OpNeg, api.OpPre, api.OpOnce, api.OpHist, api.OpPrev, api.OpWithin}
	twos        = []int{api.OpAnd, api.OpOr, api.OpXor, api.OpImp, api.OpEq, api.OpNe, api.OpLt, api.OpLe, api.OpAdd, api.OpSub, api.OpMul, api.OpDiv, api.OpMod, api.OpArrow, api.OpSince}
)

// term is an expression as a tree: a call's arguments are its operands.
type term struct {
	op, n int
	name  string
	kids  []*term
}

func v(name string) *term { return &term{op: api.OpVar, name: name} }

func truth(b int) *term { return &term{op: api.OpBool, n: b} }

func op(op int, kids ...*term) *term { return &term{op: op, kids: kids} }

func call(name string, kids ...*term) *term { return &term{op: api.OpCall, name: name, kids: kids} }

// lay puts a term in order behind what stands in out, and tells its node's number.
func (t *term) lay(out *api.Expr) int {
	at := []int{-1, -1, -1}
	for i, k := range t.kids {
		n := k.lay(out)
		if t.op != api.OpCall {
			at[i] = n
			continue
		}
		*out = append(*out, api.Node{Op: api.OpArgs, A: n, B: at[0], C: -1})
		at[0] = len(*out) - 1
	}
	*out = append(*out, api.Node{Op: t.op, A: at[0], B: at[1], C: at[2], N: t.n, Name: t.name})
	return len(*out) - 1
}

func (t *term) ordered() api.Expr {
	var out api.Expr
	t.lay(&out)
	return out
}

// key is the same of two terms just if they are the same.
func (t *term) key() string { return fmt.Sprint(t.ordered()) }

// cut is what the chapter says of an expression, by its tree.
func (t *term) cut(atoms *[]*term) *term {
	if slices.Contains(connectives, t.op) {
		c := *t
		c.kids = nil
		for _, k := range t.kids {
			c.kids = append(c.kids, k.cut(atoms))
		}
		return &c
	}
	for i, a := range *atoms {
		if a.key() == t.key() {
			return v("?" + strconv.Itoa(i))
		}
	}
	*atoms = append(*atoms, t)
	return v("?" + strconv.Itoa(len(*atoms)-1))
}

// holds is what a term over atoms is.
func (t *term) holds(at []bool) bool {
	kid := func(i int) bool { return t.kids[i].holds(at) }
	switch t.op {
	case api.OpBool:
		return t.n == 1
	case api.OpVar:
		k, _ := strconv.Atoi(t.name[1:])
		return at[k]
	case api.OpNot:
		return !kid(0)
	case api.OpAnd:
		return kid(0) && kid(1)
	case api.OpOr:
		return kid(0) || kid(1)
	case api.OpXor:
		return kid(0) != kid(1)
	case api.OpImp:
		return !kid(0) || kid(1)
	case api.OpIf:
		if kid(0) {
			return kid(1)
		}
		return kid(2)
	}
	panic(t.op)
}

// over is a term over some of so many atoms, at most so deep.
func over(r *rand.Rand, deep, count int) *term {
	if deep <= 1 || r.Intn(6) == 0 {
		if count == 0 || r.Intn(8) == 0 {
			return truth(r.Intn(2))
		}
		return v("?" + strconv.Itoa(r.Intn(count)))
	}
	t := op(connectives[1+r.Intn(len(connectives)-1)])
	for range map[int]int{api.OpNot: 1, api.OpIf: 3}[t.op] {
		t.kids = append(t.kids, over(r, deep-1, count))
	}
	for len(t.kids) < 2 && t.op != api.OpNot {
		t.kids = append(t.kids, over(r, deep-1, count))
	}
	return t
}

// some is a term of any operators, at most so deep, of which many connect.
func some(r *rand.Rand, deep int) *term {
	if deep <= 1 || r.Intn(6) == 0 {
		switch r.Intn(6) {
		case 0:
			return &term{op: api.OpNum, n: r.Intn(2)}
		case 1:
			return truth(r.Intn(2))
		case 2:
			return call("f")
		}
		return v([]string{"a", "b", "?0", "?1", "x" + strconv.Itoa(r.Intn(50))}[r.Intn(5)])
	}
	t := &term{}
	n := 1
	switch r.Intn(8) {
	case 0:
		if t.op = ones[r.Intn(len(ones))]; t.op == api.OpWithin {
			t.n = r.Intn(3)
		}
	case 1:
		t.op, n = twos[r.Intn(len(twos))], 2
	case 2:
		n = r.Intn(3)
		t.op, t.name, deep = api.OpCall, string(rune('f'+r.Intn(2))), deep-n
	case 3:
		t.op, n = api.OpIf, 3
	case 4:
		t.op = api.OpNot
	default:
		t.op, n = []int{api.OpAnd, api.OpOr, api.OpXor, api.OpImp}[r.Intn(4)], 2
	}
	for range n {
		t.kids = append(t.kids, some(r, deep-1))
	}
	return t
}

// shuffled is an expression in any order in which operands stand ahead.
func shuffled(r *rand.Rand, e api.Expr) api.Expr {
	to := slices.Repeat([]int{-1}, len(e))
	moved := func(k int) int {
		if k < 0 {
			return k
		}
		return to[k]
	}
	var out api.Expr
	for len(out) < len(e) {
		i := r.Intn(len(e))
		n := e[i]
		if to[i] >= 0 || slices.ContainsFunc([]int{n.A, n.B, n.C}, func(k int) bool { return k >= 0 && to[k] < 0 }) {
			continue
		}
		to[i] = len(out)
		n.A, n.B, n.C = moved(n.A), moved(n.B), moved(n.C)
		out = append(out, n)
	}
	return out
}

func read(t *testing.T, s string) api.Expr {
	t.Helper()
	e, f := expr.Read(s)
	if f.Code != api.OK {
		t.Fatalf("%q: %v", s, f)
	}
	return e
}

// text is an expression, node by node.
func text(e api.Expr) string {
	var l []string
	for _, n := range e {
		switch {
		case n.Name != "":
			l = append(l, n.Name)
		case n.Op == api.OpBool:
			l = append(l, strconv.FormatBool(n.N == 1))
		default:
			l = append(l, show.Op(n.Op))
		}
	}
	return strings.Join(l, " ")
}

// bare is a node without operands.
func bare(op, n int, name string) api.Node {
	return api.Node{Op: op, A: -1, B: -1, C: -1, N: n, Name: name}
}

// spoil writes all over a list, with its spare room: nobody else may mind.
func spoil[T any](l []T, by T) {
	for i := range l[:cap(l)] {
		l[:cap(l)][i] = by
	}
}

// points are all values of so many atoms, in order.
func points(count int) [][]bool {
	var l [][]bool
	for p := range 1 << count {
		at := make([]bool, count)
		for i := range at {
			at[i] = p>>(count-1-i)&1 == 1
		}
		l = append(l, at)
	}
	return l
}
