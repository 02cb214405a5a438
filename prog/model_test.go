package prog_test

import (
	"maps"
	"slices"
	"strings"
	"testing"

	"bailment/api"
	"bailment/expr"
	"bailment/lex"
	"bailment/prog"
)

// The chapter's grammar, told in another way: of each place what can stand
// there, and the place behind it. `name` is any name, `E` an expression (it
// stands last: whatever is none of the others must begin one), `.` the end.
// `back` is the place behind the items of a node's contract, or of a contract.
const places = `
units: node node1 | contract contract1 | main main1
main1: name main2
main2: ; main3
main3: fallback back1 | . .
back1: name back2
back2: ; back3
back3: . .
node1: name node2
node2: ( in1
in1: name in2 | ) in6
in2: : in3
in3: bool in4 | int in4
in4: ; in5 | ) in6
in5: name in2
in6: returns out1
out1: ( out2
out2: name out3
out3: : out4
out4: bool out5 | int out5
out5: ) node3
node3: contract items | var var1 | let eqs
node4: var var1 | let eqs
var1: name var2
var2: : var3
var3: bool var4 | int var4
var4: ; var5
var5: name var2 | let eqs
eqs: name eq1 | tel units
eq1: = eq2
eq2: E eq3
eq3: ; eqs
contract1: name contract2
contract2: ( cin1
cin1: name cin2 | ) items
cin2: : cin3
cin3: bool cin4 | int cin4
cin4: ; cin5 | ) items
cin5: name cin2
items: assume plain1 | guarantee plain1 | ghost ghost1 | mode mode1 | import import1 | end back
plain1: E ends
ends: ; items
ghost1: name ghost2
ghost2: : ghost3
ghost3: bool ghost4 | int ghost4
ghost4: = plain1
mode1: name mode2
mode2: require mode3
mode3: E mode4
mode4: ensure plain1
import1: name import2
import2: ( import3
import3: ) ends | E import4
import4: , import5 | ) ends
import5: E import4
`

// step is what can stand at a place, and the place behind it.
type step struct{ what, to string }

// table is what can stand at each place, in order.
func table() map[string][]step {
	t := map[string][]step{}
	for _, line := range strings.Split(strings.TrimSpace(places), "\n") {
		from, rest, _ := strings.Cut(line, ": ")
		for _, s := range strings.Split(rest, " | ") {
			what, to, _ := strings.Cut(s, " ")
			t[from] = append(t[from], step{what, to})
		}
	}
	return t
}

// said is the fault that a program of such tokens has, if none of its lists is too long.
func said(t map[string][]step, l []api.Token) api.Fault {
	place, back := "units", ""
	for i := 0; ; {
		k := slices.IndexFunc(t[place], func(s step) bool {
			switch {
			case s.what == "E":
				return true
			case i == len(l):
				return s.what == "."
			case s.what == "name":
				return l[i].Kind == api.TokName
			}
			return l[i].Text == s.what
		})
		if k < 0 {
			return api.Fault{Code: api.ErrSyntax, At: expr.At(l, i)}
		}
		s := t[place][k]
		switch s.what {
		case ".":
			return api.Fault{}
		case "E":
			_, behind, f := expr.Parse(l, i)
			if f.Code != api.OK {
				return f
			}
			i = behind
		default:
			i++
		}
		switch s.to {
		case "node1":
			back = "node4"
		case "contract1":
			back = "units"
		}
		if place = s.to; place == "back" {
			place = back
		}
	}
}

// asSaid holds Parse against the model.
func asSaid(t *testing.T, steps map[string][]step, s string) api.Fault {
	t.Helper()
	l, want := lex.Lex(s)
	if want.Code == api.OK {
		want = said(steps, l)
	}
	p, f := prog.Parse(s)
	if f != want || f.Code != api.OK && !same(p, api.Prog{}) {
		t.Fatalf("P6.1: %.400q: %v, not %v", s, f, want)
	}
	return f
}

// ways are the shortest sources behind which each place stands.
func ways(steps map[string][]step) map[string]string {
	at := map[string]string{"units": "", "items in node": ""}
	text := map[string]string{"name": "n", "E": "e", ".": ""}
	for queue := []string{"units"}; len(queue) > 0; queue = queue[1:] {
		for _, s := range steps[queue[0]] {
			if _, ok := at[s.to]; ok || s.to == "back" || s.to == "." {
				continue
			}
			word, ok := text[s.what]
			if !ok {
				word = s.what
			}
			at[s.to] = at[queue[0]] + " " + word
			queue = append(queue, s.to)
		}
		if queue[0] == "node3" {
			// The shortest way to items is that of a contract; behind those of a node another place stands.
			at["items in node"] = at["node3"] + " contract"
			at["node4"] = at["items in node"] + " end"
			queue = append(queue, "node4")
		}
	}
	return at
}

const words = "and assume bool contract div else end ensure fallback false ghost guarantee hist if import int let main mod mode node not once or pre prev require returns since tel then true var within xor -> => <= >= <> = < > + - * ( ) , ; : a 7 f ( ) # 00 n:int; n=e; a;"

// Behind each place stands each token, and each pair of tokens.
func TestAllPlaces(t *testing.T) {
	steps := table()
	at := ways(steps)
	for place := range steps {
		if _, ok := at[place]; !ok {
			t.Errorf("no way to %s", place)
		}
	}
	all := strings.Fields(words)
	for _, place := range slices.Sorted(maps.Keys(at)) {
		way := at[place]
		asSaid(t, steps, way)
		goesOn := 0
		for _, w := range all {
			f := asSaid(t, steps, way+" "+w)
			if f.Code != api.OK && f.At >= 0 {
				continue
			}
			goesOn++
			for _, x := range all {
				asSaid(t, steps, way+" "+w+" "+x)
			}
		}
		if goesOn == 0 && place != "back3" {
			t.Errorf("nothing can stand at %s: %q", place, way)
		}
	}
}
