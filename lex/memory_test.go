package lex

import (
	"slices"
	"testing"
	"unsafe"

	"imprimatur/api"
)

// lent: a text in memory that the test changes later.
func lent(text string) ([]byte, string) {
	b := append([]byte(text), "room"...)
	return b, unsafe.String(&b[0], len(text))
}

// fill writes over all bytes.
func fill(b []byte) {
	for i := range b {
		b[i] = '?'
	}
}

const sample = "def a.b @1 := fun (x : nat), [0 of p x]; -- 007\n:"

// P11.3: texts stay as they are, with the memory behind them.
func TestTextUnchanged(t *testing.T) {
	for _, text := range []string{sample, "a", "7", "--", "= a", "a\x00", ""} {
		b, given := lent(text)
		Scan(given)
		Place(given, len(text)/2)
		Number(given)
		Join([]Token{{Word, given, 0}, {Word, given, 0}})
		if string(b) != text+"room" {
			t.Errorf("%q", b)
		}
	}
}

// P11.3: what is behind a text is no part of it.
func TestRoomIsNoText(t *testing.T) {
	for _, text := range []string{"a", "7", ":", "-", "--", "12345", "x."} {
		for _, behind := range []string{"room", "0000000", "=", "-", "\x00"} {
			both := text + behind
			scans(t, both[:len(text)])
			if got, ok := Number(both[:len(text)]); ok != (text[0] == '7' || text[0] == '1') || ok != (got > 0) {
				t.Error(both, got, ok)
			}
		}
	}
}

// P11.3: nothing of a text is kept: tokens do not stand in its memory.
func TestTokensAreNew(t *testing.T) {
	b, given := lent(sample)
	list, _, _ := Scan(given)
	fill(b)
	want, _, e := Scan(sample)
	if !equal(list, want) || len(list) != 20 || e != api.OK {
		t.Error(list)
	}
	for i, token := range list {
		if token.Text == "" {
			t.Error(i)
		}
	}
}

// P11.3: two answers of one call share no memory.
func TestAnswersApart(t *testing.T) {
	a, _, _ := Scan(sample)
	b, _, _ := Scan(sample)
	a[0], a[3] = Token{}, Token{}
	all := a[:cap(a)]
	clear(all)
	if want, _, _ := plainScan(sample); !equal(b, want) {
		t.Error(b)
	}
	if c, _, _ := Scan(sample); !equal(b, c) {
		t.Error(c)
	}
}

// Rule 4: the spare room of a result is new memory too.
func TestSpareRoom(t *testing.T) {
	list, _, _ := Scan(sample)
	for _, token := range list[len(list):cap(list)] {
		if token != (Token{}) {
			t.Error(token)
		}
	}
}

// P11.3: Join neither changes tokens nor keeps them, also a single one.
func TestJoinIsNew(t *testing.T) {
	for count := range 4 {
		b, given := lent("abc")
		var list []Token
		for i := range count {
			list = append(list, Token{Word, given, i})
		}
		list = append(list, w("room", 1), n("7", 2))
		before := slices.Clone(list)
		got := Join(list[:count])
		if !equal(list, before) || string(b) != "abcroom" {
			t.Error(list, b)
		}
		fill(b)
		clear(list)
		if want := []string{"", "abc", "abc abc", "abc abc abc"}[count]; got != want {
			t.Errorf("%d: %q", count, got)
		}
	}
}
