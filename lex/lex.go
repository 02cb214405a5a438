// Package lex is layer 2, a source's tokens: see shared/doc/02-lex.md.
package lex

import (
	"strings"

	"bailment/api"
)

const (
	longestName = 40
	greatestNum = "2147483647"
)

// Lex makes tokens of a source.
func Lex(s string) ([]api.Token, api.Fault) {
	if len(s) > api.MaxSource {
		return nil, api.Fault{Code: api.ErrMany, At: -1}
	}
	at := passed(s, 0)
	row := func(of func(byte) bool) string {
		end := at
		for end < len(s) && of(s[end]) {
			end++
		}
		return s[at:end]
	}
	var l []api.Token
	for at < len(s) {
		t := api.Token{At: at}
		e := api.OK
		switch {
		case isDigit(s[at]):
			t.Text = row(isDigit)
			t.Kind, e = digits(t.Text)
		case isOfName(s[at]):
			t.Text = row(isOfName)
			t.Kind, e = letters(t.Text)
		default:
			t.Text = longestSign(s[at:])
			t.Kind, e = sign(t.Text)
		}
		if e != api.OK {
			return nil, api.Fault{Code: e, At: at}
		}
		l = append(l, t)
		at = passed(s, at+len(t.Text))
	}
	return l, api.Fault{}
}

// passed is where the next token may begin: behind blanks and remarks.
func passed(s string, at int) int {
	for at < len(s) {
		switch {
		case isBlank(s[at]):
			at++
		case strings.HasPrefix(s[at:], "--"):
			n := strings.IndexByte(s[at:], '\n')
			if n < 0 {
				return len(s)
			}
			at += n
		default:
			return at
		}
	}
	return at
}

// digits is of what kind a row of digits is.
func digits(row string) (int, api.Errno) {
	if len(row) > 1 && row[0] == '0' || len(row) > len(greatestNum) {
		return 0, api.ErrOver
	}
	// Of rows that are of one length the order of texts is that of numbers.
	if len(row) == len(greatestNum) && row > greatestNum {
		return 0, api.ErrOver
	}
	return api.TokNum, api.OK
}

// letters is of what kind a row of letters is.
func letters(row string) (int, api.Errno) {
	if IsWord(row) {
		return api.TokWord, api.OK
	}
	if IsName(row) {
		return api.TokName, api.OK
	}
	return 0, api.ErrSyntax
}

// sign is of what kind a sign is; none is no token.
func sign(text string) (int, api.Errno) {
	if text == "" {
		return 0, api.ErrSyntax
	}
	return api.TokSign, api.OK
}

// longestSign is the one with which a text begins; it is empty, if none does.
func longestSign(s string) string {
	if len(s) >= 2 {
		switch s[:2] {
		case "->", "=>", "<=", ">=", "<>":
			return s[:2]
		}
	}
	switch s[0] {
	case '=', '<', '>', '+', '-', '*', '(', ')', ',', ';', ':':
		return s[:1]
	}
	return ""
}

// IsName tells whether a text is a name, IsWord whether it is a word of the language.
func IsName(s string) bool {
	if s == "" || len(s) > longestName || isDigit(s[0]) || IsWord(s) {
		return false
	}
	for i := range len(s) {
		if !isOfName(s[i]) {
			return false
		}
	}
	return true
}

func IsWord(s string) bool {
	switch s {
	case "and", "assume", "bool", "contract", "div", "else", "end", "ensure",
		"fallback", "false", "ghost", "guarantee", "hist", "if", "import", "int",
		"let", "main", "mod", "mode", "node", "not", "once", "or", "pre", "prev",
		"require", "returns", "since", "tel", "then", "true", "var", "within", "xor":
		return true
	}
	return false
}

// Join writes tokens, one blank between any two.
func Join(l []api.Token) string {
	texts := make([]string, len(l))
	for i, t := range l {
		texts[i] = t.Text
	}
	return strings.Join(texts, " ")
}

func isBlank(c byte) bool { return c == ' ' || c == '\t' || c == '\n' || c == '\r' }

func isDigit(c byte) bool { return '0' <= c && c <= '9' }

func isOfName(c byte) bool { return 'a' <= c && c <= 'z' || c == '_' || isDigit(c) }
