package lex_test

import (
	"math/rand"
	"regexp"
	"slices"
	"strings"
	"testing"

	"bailment/api"
	"bailment/lex"
)

const words = "and assume bool contract div else end ensure fallback false ghost guarantee hist if import int let main mod mode node not once or pre prev require returns since tel then true var within xor"

const signs = "-> => <= >= <> = < > + - * ( ) , ; :"

func TestExample(t *testing.T) {
	l, f := lex.Lex("a->pre b")
	want := []api.Token{{Kind: api.TokName, Text: "a"}, {Kind: api.TokSign, Text: "->", At: 1}, {Kind: api.TokWord, Text: "pre", At: 3}, {Kind: api.TokName, Text: "b", At: 7}}
	if !slices.Equal(l, want) || f != (api.Fault{}) {
		t.Errorf("P2.1: %v, %v", l, f)
	}
}

// one tells of a source that is one token, or has a fault.
func one(t *testing.T, s string, kind int, want api.Fault) {
	t.Helper()
	var all []api.Token
	if kind != 0 {
		all = []api.Token{{Kind: kind, Text: s}}
	}
	if l, f := lex.Lex(s); !slices.Equal(l, all) || f != want {
		t.Errorf("P2.1: %.50q: %v, %v", s, l, f)
	}
}

func TestWords(t *testing.T) {
	for _, w := range strings.Fields(words) {
		one(t, w, api.TokWord, api.Fault{})
		if !lex.IsWord(w) || lex.IsName(w) {
			t.Errorf("P2.2: %q", w)
		}
		for _, s := range []string{w + "_", "_" + w, w + "1", w[1:] + "zz", w + w} {
			one(t, s, api.TokName, api.Fault{})
			if lex.IsWord(s) || !lex.IsName(s) {
				t.Errorf("P2.2: %q", s)
			}
		}
		if s := strings.ToUpper(w[:1]) + w[1:]; lex.IsWord(s) || lex.IsName(s) {
			t.Errorf("P2.2: %q", s)
		}
	}
	for _, s := range []string{"", " ", "and ", " and", "andor", "->", "1"} {
		if lex.IsWord(s) {
			t.Errorf("P2.2: %q is a word", s)
		}
	}
}

func TestNames(t *testing.T) {
	long := strings.Repeat("a", 40)
	for _, s := range []string{"a", "z", "_", "__", "a0", "_9", "a_b_c", long, "_" + long[1:], "a" + strings.Repeat("9", 39)} {
		one(t, s, api.TokName, api.Fault{})
		if !lex.IsName(s) {
			t.Errorf("P2.2: %q is no name", s)
		}
	}
	for _, s := range []string{long + "a", long + "9", long + "_", strings.Repeat("_", 99999)} {
		one(t, s, 0, api.Fault{Code: api.ErrSyntax})
	}
	for _, s := range []string{"", "0", "9a", "A", "aB", "a-b", "a b", " a", "a ", "a\n", "a\x00", "\xff", "a\x80", "é", "aé", "`", "{", long + "a", long + long} {
		if lex.IsName(s) {
			t.Errorf("P2.2: %.50q is a name", s)
		}
	}
}

func TestNumbers(t *testing.T) {
	for _, s := range []string{"0", "1", "9", "10", "999999999", "1000000000", "2147483639", "2147483646", "2147483647"} {
		one(t, s, api.TokNum, api.Fault{})
	}
	for _, s := range []string{"00", "01", "007", "0000000000", "2147483648", "2147483650", "2200000000", "3000000000", "10000000000", "02147483647", "4294967296", "18446744073709551616", strings.Repeat("9", 100000)} {
		one(t, s, 0, api.Fault{Code: api.ErrOver})
	}
	if l, f := lex.Lex("-2147483648"); l != nil || f != (api.Fault{Code: api.ErrOver, At: 1}) {
		t.Errorf("P2.1: %v, %v", l, f)
	}
}

func TestSigns(t *testing.T) {
	for _, s := range strings.Fields(signs) {
		one(t, s, api.TokSign, api.Fault{})
	}
	for s, want := range map[string]string{"<=>": "<= >", "=>=": "=> =", "<>=": "<> =", ">=>": ">= >", "==>": "= =>", "->>": "-> >", "<->": "< ->", "- -": "- -", "->-1": "-> - 1", "=<": "= <", "><": "> <"} {
		if l, f := lex.Lex(s); f != (api.Fault{}) || lex.Join(l) != want {
			t.Errorf("P2.1: %q: %q, %v", s, lex.Join(l), f)
		}
	}
}

func TestBytes(t *testing.T) {
	for c := range 256 {
		s := string([]byte{byte(c)})
		switch {
		case strings.Contains(" \t\n\r", s):
			one(t, s, 0, api.Fault{})
		case c == '_' || 'a' <= c && c <= 'z':
			one(t, s, api.TokName, api.Fault{})
		case '0' <= c && c <= '9':
			one(t, s, api.TokNum, api.Fault{})
		case strings.Contains("=<>+-*(),;:", s):
			one(t, s, api.TokSign, api.Fault{})
		default:
			one(t, s, 0, api.Fault{Code: api.ErrSyntax})
			one(t, "--"+s, 0, api.Fault{})
			if l, f := lex.Lex("ab " + s + " 00"); l != nil || f != (api.Fault{Code: api.ErrSyntax, At: 3}) {
				t.Errorf("P2.1: byte %d: %v, %v", c, l, f)
			}
		}
	}
}

func TestPassedOver(t *testing.T) {
	for s, want := range map[string]string{"": "", " \t\r\n": "", "--": "", "--\n": "", "--A\x00\xff": "", "a--b\nc": "a c", "a--b\rc": "a", "a--b--c\n--d\n\re": "a e", "-->": "", "a- -- -\n-": "a - -", "->--x": "->", "<--x\n>": "< >", "---\n-1": "- 1", "a\tb\nc\rd e": "a b c d e"} {
		if l, f := lex.Lex(s); f != (api.Fault{}) || lex.Join(l) != want {
			t.Errorf("P2.1: %q: %q, %v", s, lex.Join(l), f)
		}
	}
}

func TestLongSources(t *testing.T) {
	for n, want := range map[int]api.Fault{99999: {}, 100000: {}, 100001: {Code: api.ErrMany, At: -1}, 300000: {Code: api.ErrMany, At: -1}} {
		for _, c := range []string{" ", "(", "-"} {
			l, f := lex.Lex(strings.Repeat(c, n))
			if f != want || f.Code == api.OK && c == "(" && len(l) != n || f.Code != api.OK && l != nil {
				t.Errorf("P2.1: %d of %q: %d tokens, %v", n, c, len(l), f)
			}
		}
	}
	// ErrMany is named first, ahead of faults that stand at places.
	if l, f := lex.Lex("A" + strings.Repeat("0", 100000)); l != nil || f != (api.Fault{Code: api.ErrMany, At: -1}) {
		t.Errorf("R2: %v, %v", l, f)
	}
	if _, f := lex.Lex(strings.Repeat(" ", 99999) + "A"); f != (api.Fault{Code: api.ErrSyntax, At: 99999}) {
		t.Errorf("P2.1: %v", f)
	}
}

func TestFirstFault(t *testing.T) {
	long := strings.Repeat("a", 41)
	for s, want := range map[string]api.Fault{"a 00 A": {Code: api.ErrOver, At: 2}, "a A 00": {Code: api.ErrSyntax, At: 2}, " " + long + " 00": {Code: api.ErrSyntax, At: 1}, "aB": {Code: api.ErrSyntax, At: 1}, "1.5": {Code: api.ErrSyntax, At: 1}, "a00 b 00a": {Code: api.ErrOver, At: 6}, "--\n\"": {Code: api.ErrSyntax, At: 3}} {
		if l, f := lex.Lex(s); l != nil || f != want {
			t.Errorf("P2.1: %q: %v, %v", s, l, f)
		}
	}
}

func TestJoin(t *testing.T) {
	l := []api.Token{{Text: "a"}, {Kind: 99, Text: "", At: -5}, {Text: "b c"}, {Text: "\xff"}}
	kept := slices.Clone(l)
	for n, want := range map[int]string{0: "", 1: "a", 2: "a ", 3: "a  b c", 4: "a  b c \xff"} {
		if s := lex.Join(l[:n]); s != want {
			t.Errorf("P2.2: %q", s)
		}
	}
	if lex.Join(nil) != "" || !slices.Equal(l, kept) {
		t.Error("P2.2, R5: Join of nothing, or what was handed in is changed")
	}
}

var (
	blanks  = regexp.MustCompile(`^(?:[ \t\n\r]|--[^\n]*)+`)
	aRow    = regexp.MustCompile(`^[a-z_][a-z_0-9]*`)
	aNumber = regexp.MustCompile(`^[0-9]+`)
	aSign   = regexp.MustCompile(`^(?:->|=>|<=|>=|<>|[=<>+*(),;:-])`)
)

// said is what P2.1 says of a short source.
func said(s string) ([]api.Token, api.Fault) {
	var l []api.Token
	for at := 0; ; {
		if at += len(blanks.FindString(s[at:])); at == len(s) {
			return l, api.Fault{}
		}
		t := api.Token{At: at}
		if t.Text = aRow.FindString(s[at:]); t.Text != "" {
			t.Kind = api.TokName
			if slices.Contains(strings.Fields(words), t.Text) {
				t.Kind = api.TokWord
			}
		} else if t.Text = aNumber.FindString(s[at:]); t.Text != "" {
			if t.Kind = api.TokNum; len(t.Text) > 1 && t.Text[0] == '0' {
				return nil, api.Fault{Code: api.ErrOver, At: at}
			}
		} else if t.Text = aSign.FindString(s[at:]); t.Text != "" {
			t.Kind = api.TokSign
		} else {
			return nil, api.Fault{Code: api.ErrSyntax, At: at}
		}
		l = append(l, t)
		at += len(t.Text)
	}
}

// holds tells what holds of each source.
func holds(t *testing.T, s string) {
	t.Helper()
	l, f := lex.Lex(s)
	if want, wantF := said(s); !slices.Equal(l, want) || f != wantF {
		t.Fatalf("P2.1: %q: %v, %v; not %v, %v", s, l, f, want, wantF)
	}
	end := 0
	for _, k := range l {
		if k.At < end || k.Text == "" || s[k.At:k.At+len(k.Text)] != k.Text {
			t.Fatalf("P2.3: %q: %v", s, l)
		}
		end = k.At + len(k.Text)
	}
	again, f := lex.Lex(lex.Join(l))
	for i := range again {
		again[i].At = 0
	}
	bare := slices.Clone(l)
	for i := range bare {
		bare[i].At = 0
	}
	if !slices.Equal(again, bare) || f != (api.Fault{}) {
		t.Fatalf("P2.3: %q: %v, %v", s, again, f)
	}
	if same, _ := lex.Lex(s); !slices.Equal(same, l) {
		t.Fatalf("R5, R6: %q: %v, then %v", s, l, same)
	}
}

func TestAllShortSources(t *testing.T) {
	const of = "aif_09-><=\n (A"
	var all func(s string)
	all = func(s string) {
		holds(t, s)
		if len(s) < 4 {
			for _, c := range of {
				all(s + string(c))
			}
		}
	}
	all("")
}

func TestManySources(t *testing.T) {
	parts := append(strings.Fields(words+" "+signs), "\n", "\t", "\r", " ", "--", "x", "y_1", "0", "7", "2147483647", "_")
	r := rand.New(rand.NewSource(2))
	for range 3000 {
		var b strings.Builder
		for range r.Intn(60) {
			b.WriteString(parts[r.Intn(len(parts))])
			if r.Intn(2) == 0 {
				b.WriteByte(' ')
			}
		}
		s := b.String()
		if regexp.MustCompile(`[0-9]{10}[0-9]|[a-z_0-9]{41}|[3-9][0-9]{9}|2[2-9][0-9]{8}`).MatchString(s) {
			continue // said tells of short rows alone
		}
		holds(t, s)
	}
}

func TestAnswerIsNew(t *testing.T) {
	l, _ := lex.Lex("a b")
	l[0].Text = "z"
	if again, _ := lex.Lex("a b"); lex.Join(again) != "a b" {
		t.Errorf("R5: %v", again)
	}
}
