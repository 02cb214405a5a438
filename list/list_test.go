package list_test

import (
	"math"
	"slices"
	"strings"
	"testing"

	"bailment/api"
	"bailment/list"
	"bailment/prog"
	"bailment/tree"
)

func v(name string) api.Expr { return tree.Join(api.OpVar, 0, name) }

func op(op int, parts ...api.Expr) api.Expr { return tree.Join(op, 0, "", parts...) }

func sameItem(a, b api.Item) bool {
	return a.Kind == b.Kind && a.Name == b.Name && a.Type == b.Type && slices.Equal(a.E, b.E) && slices.Equal(a.F, b.F) &&
		slices.EqualFunc(a.Args, b.Args, slices.Equal)
}

func sameEquation(a, b api.Equation) bool { return a.Name == b.Name && slices.Equal(a.E, b.E) }

func sameUnit(a, b api.Unit) bool {
	return a.Contract == b.Contract && a.Name == b.Name && slices.Equal(a.In, b.In) && a.Out == b.Out && slices.Equal(a.Vars, b.Vars) &&
		slices.EqualFunc(a.Eqs, b.Eqs, sameEquation) && slices.EqualFunc(a.Items, b.Items, sameItem)
}

// same tells whether programs are one, whether lists without elements are nil or not.
func same(a, b api.Prog) bool {
	return a.Main == b.Main && a.Back == b.Back && slices.EqualFunc(a.Units, b.Units, sameUnit)
}

// read is a program that has no fault.
func read(t *testing.T, s string) api.Prog {
	t.Helper()
	p, f := prog.Parse(s)
	if f.Code != api.OK {
		t.Fatalf("%.300q: %v", s, f)
	}
	return p
}

// copied is a program that shares nothing with another one.
func copied(p api.Prog) api.Prog {
	p.Units = slices.Clone(p.Units)
	for i := range p.Units {
		u := &p.Units[i]
		u.In, u.Vars, u.Eqs, u.Items = slices.Clone(u.In), slices.Clone(u.Vars), slices.Clone(u.Eqs), slices.Clone(u.Items)
		for _, e := range expressions(p.Units[i : i+1]) {
			*e = slices.Clone(*e)
		}
		for j := range u.Items {
			u.Items[j].Args = slices.Clone(u.Items[j].Args)
			for k := range u.Items[j].Args {
				u.Items[j].Args[k] = slices.Clone(u.Items[j].Args[k])
			}
		}
	}
	return p
}

// expressions are the places of a program's expressions.
func expressions(units []api.Unit) []*api.Expr {
	var l []*api.Expr
	for i := range units {
		for j := range units[i].Eqs {
			l = append(l, &units[i].Eqs[j].E)
		}
		for j := range units[i].Items {
			item := &units[i].Items[j]
			l = append(l, &item.E, &item.F)
			for k := range item.Args {
				l = append(l, &item.Args[k])
			}
		}
	}
	return l
}

// nothing tells that a program can't be written.
func nothing(t *testing.T, what string, p api.Prog) {
	t.Helper()
	if list.May(p) || list.Write(p) != "" {
		t.Fatalf("P7.1, P7.2: %s: %v, %.300q", what, list.May(p), list.Write(p))
	}
}

// writes tells that a program is written so.
func writes(t *testing.T, p api.Prog, want string) {
	t.Helper()
	if s := list.Write(p); !list.May(p) || s != want {
		t.Fatalf("P7.1, P7.2: %v, %.500q; not %.500q", list.May(p), s, want)
	}
}

func TestExample(t *testing.T) {
	writes(t, api.Prog{Main: "f"}, "main f ;")
}

// Each source is written as it is read here, but for how it is spaced, and for
// round signs that are not needed.
func TestByHand(t *testing.T) {
	for s, want := range map[string]string{
		"main f;":             "main f ;",
		"main f; fallback g;": "main f ; fallback g ;",
		"contract k() end contract j(a:int) end main f;":                                                                                         "contract k ( ) end contract j ( a : int ) end main f ;",
		"contract k(a:int;b:bool;a:int)assume true;end main f;":                                                                                  "contract k ( a : int ; b : bool ; a : int ) assume true ; end main f ;",
		"node f()returns(o:bool)let tel main f;":                                                                                                 "node f ( ) returns ( o : bool ) let tel main f ;",
		"node f()returns(o:int)contract end let tel main f;":                                                                                     "node f ( ) returns ( o : int ) let tel main f ;",
		"node f(a:bool)returns(o:int)var x:int;let o=1;tel main f;":                                                                              "node f ( a : bool ) returns ( o : int ) var x : int ; let o = 1 ; tel main f ;",
		"node f(a:bool;b:int)returns(o:int)var x:int;y:bool;let tel main f;":                                                                     "node f ( a : bool ; b : int ) returns ( o : int ) var x : int ; y : bool ; let tel main f ;",
		"node f()returns(o:int)let o=(1);o=a->(b->c);x=-(1+2);tel main f;":                                                                       "node f ( ) returns ( o : int ) let o = 1 ; o = a -> b -> c ; x = - ( 1 + 2 ) ; tel main f ;",
		"node f()returns(o:int)contract guarantee a=b;end let tel main f;":                                                                       "node f ( ) returns ( o : int ) contract guarantee a = b ; end let tel main f ;",
		"contract k()assume a;guarantee b;assume c;end main f;":                                                                                  "contract k ( ) assume a ; guarantee b ; assume c ; end main f ;",
		"contract k()ghost g:int=a+1;ghost h:bool=once b;end main f;":                                                                            "contract k ( ) ghost g : int = a + 1 ; ghost h : bool = once b ; end main f ;",
		"contract k()mode m require a>b ensure c->d;end main f;":                                                                                 "contract k ( ) mode m require b < a ensure c -> d ; end main f ;",
		"contract k()import j();import j(a);import j((a),f(b,c),1);end main f;":                                                                  "contract k ( ) import j ( ) ; import j ( a ) ; import j ( a , f ( b , c ) , 1 ) ; end main f ;",
		"node f()returns(o:int)contract import j(a);end var x:int;let x=1;tel contract k()end node g()returns(p:bool)let tel main g;fallback f;": "node f ( ) returns ( o : int ) contract import j ( a ) ; end var x : int ; let x = 1 ; tel contract k ( ) end node g ( ) returns ( p : bool ) let tel main g ; fallback f ;",
	} {
		writes(t, read(t, s), want)
	}
	// Expressions are written by their last nodes, however their nodes stand.
	turned := api.Expr{v("b")[0], v("a")[0], {Op: api.OpSub, A: 1, B: 0, C: -1}}
	writes(t, api.Prog{Units: []api.Unit{{Contract: true, Name: "k", Items: []api.Item{{Kind: api.Mode, Name: "m", E: turned, F: turned}}}}, Main: "f"}, "contract k ( ) mode m require a - b ensure a - b ; end main f ;")
}

// rich is a program that has everything.
const rich = `contract k(x: int; y: bool)
	assume y; ghost g: int = x + 1; mode m require g > 0 ensure g > x; guarantee x = g;
end
contract j() import k(1, true); end
node f(a: int; b: bool) returns (c: int)
contract import k(a * 2, b); guarantee k_g > c; ghost h: bool = b; mode n require h ensure c < a; assume not b; end
var d: int; e: bool;
let c = a -> pre d; d = f(a, b); e = not b; tel
node g() returns (o: bool) let tel
main f; fallback g;`

// places are those of a program's parts, by what may stand in them.
type places struct {
	names, noNames []*string
	types, noTypes []*int
	exprs, noExprs []*api.Expr
	args, noArgs   []*[]api.Expr
	params         []*[]api.Param
	noParams       []*[]api.Param
	eqs, noEqs     []*[]api.Equation
	items          []*[]api.Item
}

func placesOf(p *api.Prog) places {
	var l places
	param := func(x *api.Param) {
		l.names, l.types = append(l.names, &x.Name), append(l.types, &x.Type)
	}
	l.names = append(l.names, &p.Main)
	for i := range p.Units {
		u := &p.Units[i]
		l.names, l.params, l.items = append(l.names, &u.Name), append(l.params, &u.In), append(l.items, &u.Items)
		for j := range u.In {
			param(&u.In[j])
		}
		if u.Contract {
			l.noNames, l.noTypes = append(l.noNames, &u.Out.Name), append(l.noTypes, &u.Out.Type)
			l.noParams, l.noEqs = append(l.noParams, &u.Vars), append(l.noEqs, &u.Eqs)
		} else {
			param(&u.Out)
			l.params, l.eqs = append(l.params, &u.Vars), append(l.eqs, &u.Eqs)
		}
		for j := range u.Vars {
			param(&u.Vars[j])
		}
		for j := range u.Eqs {
			l.names, l.exprs = append(l.names, &u.Eqs[j].Name), append(l.exprs, &u.Eqs[j].E)
		}
		for j := range u.Items {
			l.item(&u.Items[j])
		}
	}
	return l
}

func (l *places) item(x *api.Item) {
	has := func(kinds ...int) bool { return slices.Contains(kinds, x.Kind) }
	if has(api.Ghost, api.Mode, api.Import) {
		l.names = append(l.names, &x.Name)
	} else {
		l.noNames = append(l.noNames, &x.Name)
	}
	if has(api.Ghost) {
		l.types = append(l.types, &x.Type)
	} else {
		l.noTypes = append(l.noTypes, &x.Type)
	}
	if has(api.Import) {
		l.noExprs, l.args = append(l.noExprs, &x.E), append(l.args, &x.Args)
		for k := range x.Args {
			l.exprs = append(l.exprs, &x.Args[k])
		}
	} else {
		l.exprs, l.noArgs = append(l.exprs, &x.E), append(l.noArgs, &x.Args)
	}
	if has(api.Mode) {
		l.exprs = append(l.exprs, &x.F)
	} else {
		l.noExprs = append(l.noExprs, &x.F)
	}
}

// spoils puts each of some things in each place of one sort of the rich
// program, and tells whether it can be written then.
func spoils[T any](t *testing.T, what string, may bool, of func(places) []*T, by ...T) {
	t.Helper()
	p := read(t, rich)
	l := of(placesOf(&p))
	if len(l) == 0 {
		t.Fatalf("no %s", what)
	}
	for _, at := range l {
		kept := *at
		for _, x := range by {
			*at = x
			if !may {
				nothing(t, what, p)
			} else if list.Write(p) == "" || !list.May(p) {
				t.Fatalf("P7.1: %s: %v", what, x)
			}
		}
		*at = kept
		if !list.May(p) {
			t.Fatalf("P7.1: %v", p)
		}
	}
}

func TestNamesAndTypes(t *testing.T) {
	long := strings.Repeat("a", 40)
	spoils(t, "a name", true, func(l places) []*string { return l.names }, "a", "_", "x9", "k_g", "nodes", long)
	spoils(t, "a name", false, func(l places) []*string { return l.names }, "", "A", "9", "a b", " a", "a ", "é", "a-b", "node", "true", "if", "int", long+"a")
	spoils(t, "a name that is not there", false, func(l places) []*string { return l.noNames }, "a", "_", "node", " ", "A")
	spoils(t, "a type", true, func(l places) []*int { return l.types }, 1, 2)
	spoils(t, "a type", false, func(l places) []*int { return l.types }, 0, 3, -1, 256+1, 1<<32+1, 1<<32+2, math.MinInt, math.MaxInt)
	spoils(t, "a type that is not there", false, func(l places) []*int { return l.noTypes }, 1, 2, 3, -1, 1<<32, math.MinInt, math.MaxInt)
	p := read(t, rich)
	for _, name := range []string{"", "a", "f", long} {
		if p.Back = name; !list.May(p) || list.Write(p) == "" {
			t.Errorf("P7.1: fallback %q", name)
		}
	}
	for _, name := range []string{"A", " ", "9", "fallback", long + "a"} {
		p.Back = name
		nothing(t, "fallback", p)
	}
	nothing(t, "a program of nothing", api.Prog{})
	nothing(t, "a fallback alone", api.Prog{Back: "f"})
}

// sum is one of n nodes (an odd number) that is not deep.
func sum(name string, n int) api.Expr {
	if n == 1 {
		return v(name)
	}
	left := n / 2
	if left%2 == 0 {
		left--
	}
	return op(api.OpAdd, sum(name, left), sum(name, n-1-left))
}

// chain is an expression so deep.
func chain(deep int) api.Expr {
	e := v("a")
	for range deep - 1 {
		e = op(api.OpNot, e)
	}
	return e
}

func bad() []api.Expr {
	x := v("x")[0]
	return []api.Expr{nil, {}, {x, x}, {{Op: 0, A: -1, B: -1, C: -1}}, {{Op: 29, A: -1, B: -1, C: -1}}, {{Op: api.OpVar, Name: "x"}}, {x, {Op: api.OpArgs, A: 0, B: -1, C: -1}}, {x, {Op: api.OpAnd, A: 0, B: 0, C: -1}}, v(""), v("A"), v("node"), v(strings.Repeat("a", 41)), tree.Join(api.OpCall, 0, "F"), tree.Join(api.OpCall, 0, "f", v("B")), tree.Join(api.OpNum, -1, ""), tree.Join(api.OpBool, 2, ""), tree.Join(api.OpWithin, 1001, "", v("a")), chain(41), op(api.OpNot, op(api.OpNot, sum("w", 4999)))}
}

func TestExpressions(t *testing.T) {
	turned := api.Expr{v("b")[0], v("a")[0], {Op: api.OpSub, A: 1, B: 0, C: -1}}
	good := []api.Expr{v("a"), tree.Join(api.OpNum, math.MaxInt32, ""), turned, tree.Join(api.OpCall, 0, "g"), tree.Join(api.OpCall, 0, "g", v("a"), turned), chain(40), op(api.OpNot, sum("w", 4999))}
	spoils(t, "an expression", true, func(l places) []*api.Expr { return l.exprs }, good...)
	spoils(t, "an expression", false, func(l places) []*api.Expr { return l.exprs }, bad()...)
	spoils(t, "an expression that is not there", false, func(l places) []*api.Expr { return l.noExprs }, append(good, bad()[2:]...)...)
	spoils(t, "an expression that is not there", true, func(l places) []*api.Expr { return l.noExprs }, nil, api.Expr{})
}

// The kinds of items, and of units, tell which fields they have.
func TestKinds(t *testing.T) {
	p := read(t, rich)
	plain := func(kind int) bool { return kind == api.Assume || kind == api.Guarantee }
	seen := 0
	for i := range p.Units {
		for j := range p.Units[i].Items {
			kind := &p.Units[i].Items[j].Kind
			kept := *kind
			for _, other := range []int{math.MinInt, -1, 0, 1, 2, 3, 4, 5, 6, 7, 256 + 1, 1<<32 + 1, math.MaxInt} {
				if *kind = other; list.May(p) != (other == kept || plain(other) && plain(kept)) || list.May(p) != (list.Write(p) != "") {
					t.Errorf("P7.1: an item of kind %d is one of %d: %v", kept, other, list.May(p))
				}
				seen++
			}
			*kind = kept
		}
		p.Units[i].Contract = !p.Units[i].Contract
		nothing(t, "a unit of the other kind", p)
		p.Units[i].Contract = !p.Units[i].Contract
	}
	if seen != 130 {
		t.Errorf("%d kinds", seen)
	}
}

func repeated[T any](x T, counts ...int) [][]T {
	var l [][]T
	for _, n := range counts {
		l = append(l, slices.Repeat([]T{x}, n))
	}
	return l
}

func TestLong(t *testing.T) {
	param, eq, item := api.Param{Name: "a", Type: api.Bool}, api.Equation{Name: "a", E: v("a")}, api.Item{Kind: api.Assume, E: v("a")}
	fits, exceeds := []int{0, 1, 2, 199, 200}, []int{201, 202, 256, 400}
	spoils(t, "streams", true, func(l places) []*[]api.Param { return l.params }, append(repeated(param, fits...), nil)...)
	spoils(t, "streams", false, func(l places) []*[]api.Param { return l.params }, repeated(param, exceeds...)...)
	spoils(t, "equations", true, func(l places) []*[]api.Equation { return l.eqs }, append(repeated(eq, fits...), nil)...)
	spoils(t, "equations", false, func(l places) []*[]api.Equation { return l.eqs }, repeated(eq, exceeds...)...)
	spoils(t, "items", true, func(l places) []*[]api.Item { return l.items }, append(repeated(item, fits...), nil)...)
	spoils(t, "items", false, func(l places) []*[]api.Item { return l.items }, repeated(item, exceeds...)...)
	spoils(t, "arguments", true, func(l places) []*[]api.Expr { return l.args }, append(repeated(v("a"), fits...), nil)...)
	spoils(t, "arguments", false, func(l places) []*[]api.Expr { return l.args }, repeated(v("a"), exceeds...)...)
	// Lists that are not there are empty, nil or not.
	spoils(t, "streams that are not there", true, func(l places) []*[]api.Param { return l.noParams }, nil, []api.Param{})
	spoils(t, "streams that are not there", false, func(l places) []*[]api.Param { return l.noParams }, append(repeated(param, 1, 2, 200), []api.Param{{}})...)
	spoils(t, "equations that are not there", true, func(l places) []*[]api.Equation { return l.noEqs }, nil, []api.Equation{})
	spoils(t, "equations that are not there", false, func(l places) []*[]api.Equation { return l.noEqs }, append(repeated(eq, 1, 2, 200), []api.Equation{{}})...)
	spoils(t, "arguments that are not there", true, func(l places) []*[]api.Expr { return l.noArgs }, nil, []api.Expr{})
	spoils(t, "arguments that are not there", false, func(l places) []*[]api.Expr { return l.noArgs }, append(repeated(v("a"), 1, 2, 200), []api.Expr{nil})...)
	// A thing is looked at wherever it stands in its list.
	for _, at := range []int{0, 1, 100, 198, 199} {
		p := api.Prog{Units: repeated(api.Unit{Contract: true, Name: "k"}, 200)[0], Main: "f"}
		if !list.May(p) {
			t.Fatal("P7.1: 200 units")
		}
		p.Units[at].Name = "K"
		nothing(t, "the name of a unit", p)
		p.Units[at].Name = "k"
		p.Units[at].Items = repeated(item, 200)[0]
		if !list.May(p) {
			t.Fatal("P7.1: 200 items")
		}
		p.Units[at].Items[at].E = v("A")
		nothing(t, "an item", p)
	}
	for _, n := range exceeds {
		nothing(t, "units", api.Prog{Units: repeated(api.Unit{Contract: true, Name: "k"}, n)[0], Main: "f"})
	}
	// Each list is counted by itself.
	full := api.Unit{Name: "f", In: repeated(param, 200)[0], Out: param, Vars: repeated(param, 200)[0], Eqs: repeated(eq, 200)[0], Items: repeated(api.Item{Kind: api.Import, Name: "k", Args: repeated(v("a"), 200)[0]}, 200)[0]}
	if p := (api.Prog{Units: repeated(full, 200)[0][:5], Main: "f"}); !list.May(p) || strings.Count(list.Write(p), "import k ( a , a") != 1000 {
		t.Error("P7.1: a unit that is full")
	}
}
