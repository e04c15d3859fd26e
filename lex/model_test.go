package lex

import (
	"regexp"
	"strconv"
	"strings"
	"testing"

	"imprimatur/api"
)

// The tokens and what separates them, as the chapter says it: the patterns take as much as they can.
var (
	wordForm   = regexp.MustCompile(`\A[a-zA-Z][a-zA-Z0-9_.]*`)
	digitsForm = regexp.MustCompile(`\A[0-9]+`)
	numberForm = regexp.MustCompile(`\A(0|[1-9][0-9]{0,5})\z`)
	signForm   = regexp.MustCompile(`\A(:=|[\(\)\[\]\{\},;\|\+@:])`)
	gapForm    = regexp.MustCompile(`\A([\x20\x0a]|--[^\x0a]*)`)
	notAllowed = regexp.MustCompile(`[^\x0a\x20-\x7e]`)
)

// signs: all of them.
var signs = []string{"(", ")", "[", "]", "{", "}", ",", ";", "|", "+", "@", ":", ":="}

// plainScan is Scan by the chapter's words. A text is held against the patterns as Latin-1, so that each byte is a character of its own.
func plainScan(text string) ([]Token, int, api.Errno) {
	if len(text) > 65536 {
		return nil, 0, api.ErrMany
	}
	end := len(text)
	if bad := notAllowed.FindStringIndex(latin(text)); bad != nil {
		end = len([]rune(latin(text)[:bad[0]]))
	}
	var list []Token
	for at := 0; at < end; {
		// Ahead of the first byte that is not allowed, each byte is a character already.
		rest := text[at:end]
		kind, form := 0, ""
		if form = wordForm.FindString(rest); form != "" {
			kind = Word
		} else if form = digitsForm.FindString(rest); numberForm.MatchString(form) {
			kind = NumberKind
		} else if form = signForm.FindString(rest); form != "" {
			kind = Sign
		} else if form = gapForm.FindString(rest); form == "" {
			return nil, at, api.ErrForm
		}
		if kind > 0 {
			list = append(list, Token{kind, form, at})
		}
		at += len(form)
	}
	if end < len(text) {
		return nil, end, api.ErrForm
	}
	return list, 0, api.OK
}

// latin: a text with a character for each byte.
func latin(text string) string {
	var runes []rune
	for i := range len(text) {
		runes = append(runes, rune(text[i]))
	}
	return string(runes)
}

// plainPlace is Place by the chapter's words.
func plainPlace(text string, at int) (int, int) {
	if at < 0 || at > len(text) {
		return 0, 0
	}
	lines := strings.Split(text[:at], "\n")
	return len(lines), len(lines[len(lines)-1]) + 1
}

// plainNumber is Number by the chapter's words.
func plainNumber(s string) (int, bool) {
	if !numberForm.MatchString(s) {
		return 0, false
	}
	n, err := strconv.Atoi(s)
	return n, err == nil
}

// plainJoin is Join by the chapter's words.
func plainJoin(list []Token) string {
	var texts []string
	for _, token := range list {
		texts = append(texts, token.Text)
	}
	return strings.Join(texts, " ")
}

func equal(a, b []Token) bool {
	if len(a) != len(b) {
		return false
	}
	for i := range a {
		if a[i] != b[i] {
			return false
		}
	}
	return true
}

// scans asks that a text has the tokens that the chapter gives it, or its error.
func scans(t *testing.T, text string) {
	t.Helper()
	list, at, e := Scan(text)
	wantList, wantAt, wantE := plainScan(text)
	if !equal(list, wantList) || at != wantAt || e != wantE {
		t.Fatalf("%.40q: %v %d %d, not %v %d %d", text, list, at, e, wantList, wantAt, wantE)
	}
}

// tokens asks that a text has so many tokens, written as their kinds, texts and offsets.
func tokens(t *testing.T, text string, want ...Token) {
	t.Helper()
	list, at, e := Scan(text)
	if !equal(list, want) || at != 0 || e != api.OK {
		t.Errorf("%.40q: %v %d %d, not %v", text, list, at, e, want)
	}
}

// fails asks that a text has an error at an offset.
func fails(t *testing.T, text string, want int) {
	t.Helper()
	list, at, e := Scan(text)
	if len(list) != 0 || at != want || e != api.ErrForm {
		t.Errorf("%.40q: %v %d %d, not %d", text, list, at, e, want)
	}
}

func w(text string, at int) Token { return Token{Word, text, at} }

func n(text string, at int) Token { return Token{NumberKind, text, at} }

func s(text string, at int) Token { return Token{Sign, text, at} }
