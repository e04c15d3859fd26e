package lex

import (
	"math"
	"math/rand"
	"strings"
	"testing"

	"imprimatur/api"
)

// anyText: bytes of all kinds, most of them of source texts.
func anyText(r *rand.Rand) string {
	switch r.Intn(4) {
	case 0:
		b := make([]byte, r.Intn(50))
		r.Read(b)
		return string(b)
	case 1:
		b := make([]byte, r.Intn(50))
		for i := range b {
			b[i] = byte(32 + r.Intn(95))
		}
		return string(b)
	default:
		return drawn(r, r.Intn(20), r.Intn(2) == 0)
	}
}

// anyTokens: tokens with fields of all kinds.
func anyTokens(r *rand.Rand) []Token {
	var list []Token
	for range r.Intn(6) {
		list = append(list, Token{r.Intn(6) - 1, anyText(r), r.Intn(9) - 1})
	}
	if len(list) > 0 {
		list[0].Kind, list[0].At = int(r.Uint64()), int(r.Uint64())
	}
	return list
}

// P1: each function answers as its chapter says, whatever it is given.
func TestAnyArguments(t *testing.T) {
	r := rand.New(rand.NewSource(5))
	for range 20000 {
		text := anyText(r)
		scans(t, text)
		for _, at := range []int{r.Intn(60) - 5, int(r.Uint64()), math.MinInt, math.MaxInt, len(text), len(text) + 1} {
			line, column := plainPlace(text, at)
			placed(t, text, at, line, column)
		}
		got, ok := Number(text)
		if want, wantOk := plainNumber(text); got != want || ok != wantOk {
			t.Fatalf("%q: %d %t", text, got, ok)
		}
		list := anyTokens(r)
		if got, want := Join(list), plainJoin(list); got != want {
			t.Fatalf("%v: %q", list, got)
		}
		scans(t, Join(list))
	}
}

// P1: texts and tokens far above what a source text may have.
func TestAnySize(t *testing.T) {
	for _, piece := range []string{"a", "1", "0", "-", "-- ", ":", "\n", "\x00", "a ", "é"} {
		text := strings.Repeat(piece, 1<<22)
		if list, at, e := Scan(text); len(list) != 0 || at != 0 || e != api.ErrMany {
			t.Error(len(list), at, e)
		}
		noNumber(t, text)
		wantLine, wantColumn := plainPlace(text, len(text))
		placed(t, text, len(text), wantLine, wantColumn)
		if Join([]Token{{0, text, 0}}) != text {
			t.Error("Join")
		}
	}
	list := make([]Token, 1<<20)
	if text := Join(list); text != strings.Repeat(" ", 1<<20-1) {
		t.Error(len(text))
	}
}

// Rule 1: a nil list and an empty one are equivalent.
func TestNilAndEmpty(t *testing.T) {
	if Join(nil) != "" || Join([]Token{}) != "" {
		t.Error("Join")
	}
}
